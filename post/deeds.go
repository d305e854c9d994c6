package post

import (
	"strconv"

	"skimmer/api"
)

// said is what a book says of names: their texts and their stocks.
type said struct {
	texts  map[string]string
	stocks map[string]int
}

func newSaid() said {
	return said{map[string]string{}, map[string]int{}}
}

// deed is a line that changes what a book says. With an error it changes nothing.
type deed interface {
	do(s said) (string, api.Errno)
}

type put struct {
	name, text string
}

func (d put) do(s said) (string, api.Errno) {
	s.texts[d.name] = d.text
	return d.text, api.OK
}

type drop struct {
	name string
}

func (d drop) do(s said) (string, api.Errno) {
	text, ok := s.texts[d.name]
	if !ok {
		return "", api.ErrNone
	}
	delete(s.texts, d.name)
	return text, api.OK
}

type add struct {
	name   string
	number int
}

func (d add) do(s said) (string, api.Errno) {
	s.stocks[d.name] += d.number
	return strconv.Itoa(s.stocks[d.name]), api.OK
}
