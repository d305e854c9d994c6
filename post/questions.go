package post

import (
	"strconv"
	"strings"

	"skimmer/api"
	"skimmer/fund"
	"skimmer/print"
	"skimmer/tide"
)

const oldRule = 4 // by which a fund is shared

// question is a line that is answered from what a book says. It is answered only if all names that it needs have a text.
type question interface {
	needs() []string
	ask(s said) (string, api.Errno)
}

func (s said) answer(q question) (string, api.Errno) {
	for _, name := range q.needs() {
		if _, ok := s.texts[name]; !ok {
			return "", api.ErrNone
		}
	}
	return q.ask(s)
}

// shown returns the answer that is a number.
func shown(n int, err api.Errno) (string, api.Errno) {
	if err != api.OK {
		return "", err
	}
	return strconv.Itoa(n), api.OK
}

type textOf struct {
	name string
}

func (q textOf) needs() []string { return []string{q.name} }

func (q textOf) ask(s said) (string, api.Errno) {
	return s.texts[q.name], api.OK
}

type stockOf struct {
	name string
}

func (q stockOf) needs() []string { return nil }

func (q stockOf) ask(s said) (string, api.Errno) {
	return shown(s.stocks[q.name], api.OK)
}

type drift struct {
	name        string
	from, hours int
}

func (q drift) needs() []string { return []string{q.name} }

func (q drift) ask(s said) (string, api.Errno) {
	t, err := tide.Parse(s.texts[q.name])
	if err != api.OK {
		return "", err
	}
	return shown(tide.Drift(t, q.from, q.hours))
}

type beat struct {
	name string
}

func (q beat) needs() []string { return []string{q.name} }

func (q beat) ask(s said) (string, api.Errno) {
	t, err := tide.Parse(s.texts[q.name])
	if err != api.OK {
		return "", err
	}
	return shown(tide.Beat(t))
}

type far struct {
	one, other string
}

func (q far) needs() []string { return []string{q.one, q.other} }

func (q far) ask(s said) (string, api.Errno) {
	return shown(print.Distance(s.texts[q.one], s.texts[q.other], api.Costs{Put: 1, Change: 1}))
}

type share struct {
	estate int
	names  []string
}

func (q share) needs() []string { return nil }

func (q share) ask(s said) (string, api.Errno) {
	claims := make([]int, len(q.names))
	for i, name := range q.names {
		claims[i] = s.stocks[name]
	}
	awards, err := fund.Whole(claims, q.estate, oldRule)
	if err != api.OK {
		return "", err
	}
	texts := make([]string, len(awards))
	for i, award := range awards {
		texts[i] = strconv.Itoa(award)
	}
	return strings.Join(texts, space), api.OK
}
