package post

import (
	"strconv"
	"strings"

	"skimmer/api"
)

const (
	lineFeed   = "\n"
	entryWords = 4 // of the text of an entry: three numbers, and the line, which may have spaces itself
)

func (b book) text() string {
	var texts []string
	for _, entry := range b.inOrder() {
		texts = append(texts, entryText(entry)+lineFeed)
	}
	return strings.Join(texts, "")
}

func entryText(e api.Entry) string {
	return strings.Join([]string{strconv.Itoa(e.Post), strconv.Itoa(e.Number), strconv.Itoa(e.Count), e.Line}, space)
}

// read returns the book of a text. As every entry must come behind the one before it, the counts of each post ascend too.
func read(text string) (book, api.Errno) {
	var b book
	var last api.Entry
	for text != "" {
		line, rest, ended := strings.Cut(text, lineFeed)
		entry, ok := readEntry(line)
		if !ended || !ok || compare(last, entry) >= 0 || entry.Number != len(b[entry.Post])+1 {
			return book{}, api.ErrForm
		}
		b[entry.Post] = append(b[entry.Post], entry)
		text, last = rest, entry
	}
	return b, api.OK
}

func readEntry(text string) (api.Entry, bool) {
	words := strings.SplitN(text, space, entryWords)
	if !fit(words, isPost, isPlace, isCount, isLine) {
		return api.Entry{}, false
	}
	return api.Entry{Post: whole(words[0]), Number: whole(words[1]), Count: whole(words[2]), Line: words[3]}, true
}
