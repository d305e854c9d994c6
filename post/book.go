package post

import (
	"cmp"
	"slices"

	"skimmer/api"
)

const mostCount = 1000000 // the greatest count of an entry

// book is for each post the list of its entries.
type book [api.MaxPosts][]api.Entry

// compare puts entries in order.
func compare(a, b api.Entry) int {
	return cmp.Or(cmp.Compare(a.Count, b.Count), cmp.Compare(a.Post, b.Post))
}

// count looks at the last entry of each post alone, as the counts of a post ascend.
func (b book) count() int {
	greatest := 0
	for _, list := range b {
		if len(list) > 0 {
			greatest = max(greatest, list[len(list)-1].Count)
		}
	}
	return greatest
}

// isFull reports whether a post can write no more.
func (b book) isFull(post int) bool {
	return len(b[post]) == api.MaxBook || b.count() == mostCount
}

// with returns the book with a line as the next entry of a post.
func (b book) with(post int, line string) book {
	next := api.Entry{Post: post, Number: len(b[post]) + 1, Count: b.count() + 1, Line: line}
	b[post] = append(b[post], next)
	return b
}

func (b book) seen() [api.MaxPosts]int {
	var seen [api.MaxPosts]int
	for post, list := range b {
		seen[post] = len(list)
	}
	return seen
}

// since returns, in order, the entries of each post with greater numbers than the one told for it.
func (b book) since(seen [api.MaxPosts]int) []api.Entry {
	var later []api.Entry
	for post, list := range b {
		for _, entry := range list {
			if entry.Number > seen[post] {
				later = append(later, entry)
			}
		}
	}
	slices.SortFunc(later, compare)
	return later
}

func (b book) inOrder() []api.Entry {
	return b.since([api.MaxPosts]int{})
}

// copied returns the book in memory of its own, so that what is written behind the one is not seen in the other one.
func (b book) copied() book {
	var c book
	for post, list := range b {
		c[post] = slices.Clone(list)
	}
	return c
}

func (b book) isSame(o book) bool {
	for post, list := range b {
		if !slices.Equal(list, o[post]) {
			return false
		}
	}
	return true
}

// joined returns the book that has for each post the longer one of both lists.
func (b book) joined(o book) (book, api.Errno) {
	for post, list := range b {
		shorter, longer := list, o[post]
		if len(shorter) > len(longer) {
			shorter, longer = longer, shorter
		}
		if !slices.Equal(shorter, longer[:len(shorter)]) {
			return book{}, api.ErrFork
		}
		b[post] = longer
	}
	return b.copied(), api.OK
}

// says returns what comes about if all entries are taken in order. No deed at all says nothing, nor does a deed with an error, which leaves all as it is.
func (b book) says() said {
	s := newSaid()
	for _, entry := range b.inOrder() {
		if d, ok := parsed(entry.Line).(deed); ok {
			d.do(s)
		}
	}
	return s
}
