package post_test

import (
	"math/rand/v2"
	"slices"
	"strings"
	"testing"

	"skimmer/api"
	"skimmer/post"
)

// noPosts are a nil post and one that is the zero value of its type.
func noPosts() []*post.Post {
	return []*post.Post{nil, {}, new(post.Post)}
}

// P10.1 to P10.6, R7: what no post answers, in each place.
func TestNoPosts(t *testing.T) {
	for _, p := range noPosts() {
		check(t, "Number", p.Number(), api.OK, -1, api.OK)
		check(t, "Count", p.Count(), api.OK, 0, api.OK)
		check(t, "Seen", p.Seen(), api.OK, [4]int{}, api.OK)
		check(t, "Text", p.Text(), api.OK, "", api.OK)
		checkList(t, "Book", p.Book(), api.OK, nil, api.OK)
		checkList(t, "Since", p.Since([4]int{}), api.OK, nil, api.OK)
		checkList(t, "Since", p.Since([4]int{-1, -1, -1, -1}), api.OK, nil, api.OK)
		check(t, "Copy", p.Copy(), api.OK, nil, api.OK)
		for _, o := range noPosts() {
			check(t, "Same", post.Same(p, o), api.OK, true, api.OK)
			check(t, "Join", p.Join(o), api.OK, api.ErrPost, api.OK)
		}
		for _, o := range allPosts(t) {
			before := o.Text()
			check(t, "Same", post.Same(p, o), api.OK, false, api.OK)
			check(t, "Same", post.Same(o, p), api.OK, false, api.OK)
			check(t, "Join", p.Join(o), api.OK, api.ErrPost, api.OK)
			check(t, "Join", o.Join(p), api.OK, api.ErrPost, api.OK)
			check(t, "Text", o.Text(), api.OK, before, api.OK)
		}
		check(t, "Number behind all", p.Number(), api.OK, -1, api.OK)
	}
}

// P10.2, P10.3, P10.5: ErrPost comes first, whatever else is wrong.
func TestErrPost(t *testing.T) {
	for _, p := range noPosts() {
		for _, line := range slices.Concat(goodDeeds(), badDeeds(), goodQuestions(), badQuestions(), joins()) {
			checkDo(t, p, line, "", api.ErrPost)
			checkAsk(t, p, line, "", api.ErrPost)
		}
		for _, text := range slices.Concat(goodTexts(t), badTexts(t)) {
			check(t, "Hear", p.Hear(text), api.OK, api.ErrPost, api.OK)
		}
	}
}

// P10.2: then ErrCommand, then ErrLimit, then the error of the deed.
func TestOrderOfDo(t *testing.T) {
	lots := full(t, 4)
	late := heard(t, 1, "0 1 1000000 put a x\n")
	both := heard(t, 3, strings.Replace(full(t, 4).Text(), "3 60 60 ", "3 60 1000000 ", 1))
	for _, p := range []*post.Post{lots, late, both} {
		before := p.Text()
		for _, line := range badDeeds() {
			checkDo(t, p, line, "", api.ErrCommand)
		}
		for _, line := range []string{"drop none", "drop a", "put a x", "add a 1", "put a  "} {
			checkDo(t, p, line, "", api.ErrLimit)
		}
		check(t, "Text", p.Text(), api.OK, before, api.OK)
	}
	p := wrote(t, 0, "put b x")
	checkDo(t, p, "drop none", "", api.ErrNone)
	checkDo(t, p, "drop nonenonen", "", api.ErrCommand)
	// With one entry less, or a count less by one, there is no limit yet.
	p = wrote(t, 0, slices.Repeat([]string{"add a 1"}, 59)...)
	checkDo(t, p, "drop none", "", api.ErrNone)
	checkDo(t, p, "add a 1", "60", api.OK)
	p = heard(t, 0, "1 1 999999 x\n")
	checkDo(t, p, "drop none", "", api.ErrNone)
	checkDo(t, p, "add a 1", "1", api.OK)
}

// P10.3: a text that is none comes before a fork.
func TestOrderOfHear(t *testing.T) {
	p := wrote(t, 0, "put a x", "put a y")
	for _, x := range []struct {
		text string
		want api.Errno
	}{{"0 1 1 put a z", api.ErrForm}, {"0 1 1 put a z\n", api.ErrFork}, {"0 1 2 put a x\n", api.ErrFork}, {"0 1 1 put a x\n0 2 2 put a z\nx", api.ErrForm}, {"0 1 1 put a x\n0 2 2 put a z\n", api.ErrFork}, {"0 1 1 put a x\n0 2 2 put a y\n0 3 4 x\n", api.OK}} {
		c := p.Copy()
		check(t, "Hear", c.Hear(x.text), api.OK, x.want, api.OK)
		check(t, "Same", post.Same(c, p), api.OK, x.want != api.OK, api.OK)
	}
}

// P10.5: ErrCommand comes before ErrNone, and this before the errors of the functions.
func TestOrderOfAsk(t *testing.T) {
	p := asked(t)
	for _, x := range []struct {
		line string
		want api.Errno
	}{
		{"text None", api.ErrCommand}, {"text none ", api.ErrCommand}, {"drift none 0 -0", api.ErrCommand}, {"drift p 0 -10000", api.ErrCommand}, {"far none s ", api.ErrCommand}, {"share -1 neg A", api.ErrCommand}, {"share -1 a b c t u p q r neg", api.ErrCommand},
		{"drift none 0 -1", api.ErrNone}, {"far s none", api.ErrNone}, {"far none s", api.ErrNone},
		{"drift p 0 -1", api.ErrForm}, {"far s p", api.ErrPrint}, {"share -1 none neg", api.ErrClaims}, {"share 1 none a more", api.ErrClaims}, {"share 9999 none", api.ErrArg},
	} {
		checkAsk(t, p, x.line, "", x.want)
	}
}

// spoil writes to all of a list, also beyond its length.
func spoil[E any](l []E, with E) {
	for i := range l[:cap(l)] {
		l[:cap(l)][i] = with
	}
}

// R4: what is done with a result changes neither a post nor the next result.
func TestNewMemory(t *testing.T) {
	p := made(t, 1)
	join(t, p, wrote(t, 0, "put a x", "add n 1"), wrote(t, 3, "put b y"))
	write(t, p, "put c z")
	text, book := p.Text(), p.Book()
	for range 2 {
		for _, l := range [][]api.Entry{p.Book(), p.Since([4]int{}), p.Since([4]int{1}), must[[]api.Entry](t, "Read")(post.Read(text))} {
			spoil(l, entry(9, 9, 9, "no"))
		}
		check(t, "Text", p.Text(), api.OK, text, api.OK)
		checkList(t, "Book", p.Book(), api.OK, book, api.OK)
		l, err := post.Read(text)
		checkList(t, "Read", l, err, book, api.OK)
	}
	lines := []string{"0 put a x", "0 text a", "no"}
	for range 2 {
		answers, err := post.Play(lines[:2])
		checkList(t, "Play", answers, err, []string{"x", "x"}, api.OK)
		spoil(answers, "no")
		checkList(t, "the lines", lines, api.OK, []string{"0 put a x", "0 text a", "no"}, api.OK)
	}
}

// R1: whatever the arguments are.
func TestNoPanic(t *testing.T) {
	source := rand.New(rand.NewPCG(10, 1))
	odd := func() string {
		b := make([]byte, source.IntN(80))
		for i := range b {
			b[i] = byte(pick(source, source.IntN(256), 'a', ' ', '0', '\n'))
		}
		return pick(source, "", "0 ", "put ", "put a ", "share ", "share 1 ", "drift ", "0 join ", "3 1 5 ") + string(b)
	}
	l := append(allPosts(t), nil, &post.Post{})
	for range 4000 {
		p, o, line := pick(source, l...), pick(source, l...), odd()
		before := p.Text()
		if answer, err := p.Ask(line); err != api.OK {
			check(t, "Ask", answer, api.OK, "", api.OK)
		}
		if answer, err := p.Do(line); err != api.OK {
			check(t, "Do", answer, api.OK, "", api.OK)
			check(t, "Text", p.Text(), api.OK, before, api.OK)
		}
		if entries, err := post.Read(line); err != api.OK {
			checkList(t, "Read", entries, api.OK, nil, api.OK)
		}
		c := p.Copy()
		_, _ = c.Hear(line), c.Join(o)
		answers, err := post.Play([]string{line, odd(), "0 stock a"})
		check(t, "answers", len(answers), err, 3, api.OK)
	}
}
