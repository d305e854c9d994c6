package post

import (
	"slices"
	"strconv"
	"strings"

	"skimmer/api"
)

const (
	space      = " "
	mostNumber = 9999 // the greatest absolute value of a number of 4 digits
	mostName   = 8    // letters of a name
	mostNames  = 8    // names of a share
)

// isLine reports whether a text may stand in a book. A rune of several bytes, or a byte that is no rune, is read as one above all that may.
func isLine(text string) bool {
	for _, r := range text {
		if r < ' ' || r > '~' {
			return false
		}
	}
	return len(text) <= api.MaxLine
}

func isName(word string) bool {
	for _, r := range word {
		if r < 'a' || r > 'z' {
			return false
		}
	}
	return len(word) >= 1 && len(word) <= mostName
}

func isNoName(word string) bool {
	return !isName(word)
}

// isWhole reports whether a word is a number from least to most. It compares with the text of the number, as Atoi also reads signs and zeros that this text does not have.
func isWhole(word string, least, most int) bool {
	n, err := strconv.Atoi(word)
	return err == nil && strconv.Itoa(n) == word && least <= n && n <= most
}

// whole returns the number of a word that is one.
func whole(word string) int {
	n, _ := strconv.Atoi(word)
	return n
}

func isNumber(word string) bool {
	return isWhole(word, -mostNumber, mostNumber)
}

func isPost(word string) bool {
	return isWhole(word, 0, api.MaxPosts-1)
}

// isPlace reports whether a word is a number of an entry among those of its post.
func isPlace(word string) bool {
	return isWhole(word, 1, api.MaxBook)
}

func isCount(word string) bool {
	return isWhole(word, 1, mostCount)
}

// fit reports whether words are as many as kinds of words, and each is of its kind.
func fit(words []string, kinds ...func(string) bool) bool {
	if len(words) != len(kinds) {
		return false
	}
	for i, isKind := range kinds {
		if !isKind(words[i]) {
			return false
		}
	}
	return true
}

// areShares reports whether words are an estate and the names among which it is shared.
func areShares(words []string) bool {
	names := words[1:]
	return isNumber(words[0]) && len(names) >= 1 && len(names) <= mostNames && !slices.ContainsFunc(names, isNoName)
}

// parsed returns the deed, the question or the join that a line is, nil if it is none of these.
func parsed(line string) any {
	verb, rest, _ := strings.Cut(line, space)
	// The first word of a share is its estate. One word more than it may have is split off, not more: it is enough to see that there are too many.
	words := strings.SplitN(rest, space, 1+mostNames+1)
	switch {
	case verb == "put":
		return parsedPut(line, rest)
	case verb == "drop" && fit(words, isName):
		return drop{words[0]}
	case verb == "add" && fit(words, isName, isNumber):
		return add{words[0], whole(words[1])}
	case verb == "text" && fit(words, isName):
		return textOf{words[0]}
	case verb == "stock" && fit(words, isName):
		return stockOf{words[0]}
	case verb == "drift" && fit(words, isName, isNumber, isNumber):
		return drift{words[0], whole(words[1]), whole(words[2])}
	case verb == "beat" && fit(words, isName):
		return beat{words[0]}
	case verb == "far" && fit(words, isName, isName):
		return far{words[0], words[1]}
	case verb == "share" && areShares(words):
		return share{whole(words[0]), words[1:]}
	case verb == "join" && fit(words, isPost):
		return join{whole(words[0])}
	}
	return nil
}

// parsedPut looks at the whole line: of all deeds this one alone has any bytes in it, and may be too long.
func parsedPut(line, rest string) any {
	name, text, _ := strings.Cut(rest, space)
	if !isLine(line) || !isName(name) || text == "" {
		return nil
	}
	return put{name, text}
}
