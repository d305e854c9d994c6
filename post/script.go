package post

import (
	"strconv"
	"strings"

	"skimmer/api"
)

// stations are the posts of a script, each at the index that is its number.
type stations [api.MaxPosts]*Post

func newStations() stations {
	var all stations
	for number := range all {
		all[number], _ = New(number)
	}
	return all
}

// join is a line of a script by which a post joins the book of another one.
type join struct {
	other int
}

// answer returns the answer to a line of a script, or the text of its error.
func (all stations) answer(line string) string {
	answer, err := all.play(line)
	if err != api.OK {
		return "error " + strconv.Itoa(int(err))
	}
	return answer
}

func (all stations) play(line string) (string, api.Errno) {
	number, rest, _ := strings.Cut(line, space)
	if !isPost(number) {
		return "", api.ErrCommand
	}
	p := all[whole(number)]
	switch command := parsed(rest).(type) {
	case deed:
		return p.write(rest, command)
	case question:
		return p.book.says().answer(command)
	case join:
		err := p.Join(all[command.other])
		return shown(len(p.Book()), err)
	}
	return "", api.ErrCommand
}
