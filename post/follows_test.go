package post_test

import (
	"math/rand/v2"
	"slices"
	"strings"
	"testing"

	"skimmer/api"
	"skimmer/post"
)

// met returns four posts, one with each number, that have written and joined without a fork.
func met(t *testing.T, seed uint64, steps int) []*post.Post {
	t.Helper()
	source := rand.New(rand.NewPCG(10, seed))
	l := []*post.Post{made(t, 0), made(t, 1), made(t, 2), made(t, 3)}
	for range steps {
		p := pick(source, l...)
		if source.IntN(4) == 0 {
			check(t, "Join of posts that write alone", p.Join(pick(source, l...)), api.OK, api.OK, api.OK)
			continue
		}
		// A drop of nothing is as good as any other line here.
		_, _ = p.Do(drawnDeed(source))
	}
	return l
}

// P10.8: a post with itself, both ways round, and three and four in every order.
func TestJoining(t *testing.T) {
	for seed := range uint64(60) {
		l := met(t, 100+seed, 10+int(seed))
		for _, p := range l {
			c := p.Copy()
			join(t, c, c, p, c.Copy(), made(t, 0))
			check(t, "joined with itself", post.Same(c, p), api.OK, true, api.OK)
			for _, o := range l {
				one, other := p.Copy(), o.Copy()
				join(t, one, o)
				join(t, other, p)
				check(t, "both ways round", post.Same(one, other), api.OK, true, api.OK)
			}
		}
		for _, few := range [][]*post.Post{l[:3], l[1:], l} {
			all := made(t, 0)
			join(t, all, few...)
			for _, order := range orders(len(few)) {
				p := few[order[0]].Copy()
				for _, i := range order[1:] {
					join(t, p, few[i])
					if seed%2 == 0 {
						join(t, p, few[order[0]], few[i])
					}
				}
				check(t, "in whatever order", post.Same(p, all), api.OK, true, api.OK)
			}
		}
	}
}

// orders returns all orders of the numbers from 0 to n - 1.
func orders(n int) [][]int {
	if n == 0 {
		return [][]int{{}}
	}
	var l [][]int
	for _, order := range orders(n - 1) {
		for i := range n {
			l = append(l, slices.Insert(slices.Clone(order), i, n-1))
		}
	}
	return l
}

// P10.8: joined in brackets of any kind.
func TestJoiningOfJoined(t *testing.T) {
	for seed := range uint64(40) {
		l := met(t, 300+seed, 40)
		left, right, inner := l[0].Copy(), l[0].Copy(), l[1].Copy()
		join(t, left, l[1], l[2])
		join(t, inner, l[2])
		join(t, right, inner)
		check(t, "three joined", post.Same(left, right), api.OK, true, api.OK)
	}
}

// P10.9: posts with the Same book give the same answers, also with different numbers.
func TestSameAnswers(t *testing.T) {
	for seed := range uint64(100) {
		source := rand.New(rand.NewPCG(10, 400+seed))
		plain := drawnBook(source, 12)
		var l []*post.Post
		for number := range 4 {
			l = append(l, heard(t, number, plain.textOfBook()))
		}
		for range 40 {
			line := spoiled(source, drawnQuestion(source))
			want, wantErr := l[0].Ask(line)
			for _, p := range l[1:] {
				checkAsk(t, p, line, want, wantErr)
			}
		}
		line := drawnDeed(source)
		want, wantErr := l[0].Do(line)
		for _, p := range l[1:] {
			checkDo(t, p, line, want, wantErr)
		}
	}
}

// P10.9: Hear of Text is Join, also where it is ErrFork; Read of Text is Book; Since brings what is missing.
func TestHeard(t *testing.T) {
	forks := 0
	for seed := range uint64(60) {
		l := met(t, 500+seed, 60)
		l = append(l, met(t, 600+seed, 20)...)
		for _, p := range l {
			read, err := post.Read(p.Text())
			checkList(t, "Read of Text", read, err, p.Book(), api.OK)
			checkList(t, "Since from 0", p.Since([4]int{}), api.OK, p.Book(), api.OK)
			checkList(t, "Since what it has seen itself", p.Since(p.Seen()), api.OK, nil, api.OK)
			for _, o := range l {
				joined, hearing := p.Copy(), p.Copy()
				err := joined.Join(o)
				check(t, "Hear of Text", hearing.Hear(o.Text()), api.OK, err, api.OK)
				check(t, "Hear and Join", post.Same(joined, hearing), api.OK, true, api.OK)
				if err != api.OK {
					forks++
					continue
				}
				missing := o.Since(p.Seen())
				check(t, "as many entries as Join brings", len(joined.Book())-len(p.Book()), api.OK, len(missing), api.OK)
				for _, e := range missing {
					check(t, "an entry of Join", slices.Contains(joined.Book(), e), api.OK, true, api.OK)
				}
			}
		}
	}
	if forks < 100 {
		t.Errorf("%d forks", forks)
	}
}

// P10.10: what is written comes behind all that one has heard, and Seen never falls.
func TestOrder(t *testing.T) {
	for seed := range uint64(60) {
		source := rand.New(rand.NewPCG(10, 700+seed))
		l := met(t, 800+seed, 10)
		for range 60 {
			p, o := pick(source, l...), pick(source, l...)
			before := p.Seen()
			switch source.IntN(3) {
			case 0:
				join(t, p, o)
			case 1:
				check(t, "Hear", p.Hear(o.Text()), api.OK, api.OK, api.OK)
			case 2:
				book, line := p.Book(), "put a "+drawnText(source)
				write(t, p, line)
				next := entry(p.Number(), before[p.Number()]+1, p.Count(), line)
				checkList(t, "what was written, behind all others", p.Book(), api.OK, append(book, next), api.OK)
				for _, e := range book {
					check(t, "a count that is as great", e.Count >= next.Count, api.OK, false, api.OK)
				}
			}
			for number, n := range p.Seen() {
				check(t, "Seen falls", n < before[number], api.OK, false, api.OK)
			}
		}
	}
}

// P10.11: errors of Do, and Ask, change nothing, and what Do answers is what the book says then.
func TestDeedsFollow(t *testing.T) {
	for seed := range uint64(60) {
		source := rand.New(rand.NewPCG(10, 900+seed))
		for _, p := range met(t, 1000+seed, 80) {
			for range 20 {
				before := p.Text()
				_, _ = p.Ask(spoiled(source, drawnQuestion(source)))
				check(t, "Text behind Ask", p.Text(), api.OK, before, api.OK)
				line := spoiled(source, drawnDeed(source))
				answer, err := p.Do(line)
				if err != api.OK {
					check(t, "Text behind an error", p.Text(), api.OK, before, api.OK)
					continue
				}
				check(t, "Text behind Do", strings.HasPrefix(p.Text(), before) && strings.HasSuffix(p.Text(), " "+line+"\n"), api.OK, true, api.OK)
				checkAnswer(t, p, line, answer)
			}
		}
	}
}

// checkAnswer asks for what a deed has answered.
func checkAnswer(t *testing.T, p *post.Post, line, answer string) {
	t.Helper()
	switch words := strings.SplitN(line, " ", 3); words[0] {
	case "put":
		checkAsk(t, p, "text "+words[1], answer, api.OK)
	case "add":
		checkAsk(t, p, "stock "+words[1], answer, api.OK)
	case "drop":
		checkAsk(t, p, "text "+words[1], "", api.ErrNone)
	}
}

// P10.12: nothing that is done to a copy, or to what it was copied from, changes the other one.
func TestCopies(t *testing.T) {
	for seed := range uint64(60) {
		source := rand.New(rand.NewPCG(10, 1100+seed))
		for _, p := range met(t, 1200+seed, 40) {
			c := p.Copy()
			for _, pair := range [][2]*post.Post{{p, c}, {c, p}} {
				before := pair[0].Text()
				for range 3 {
					_, _ = pair[1].Do(drawnDeed(source))
				}
				_ = pair[1].Hear("3 1 1 x\n0 1 2 y\n")
				_ = pair[1].Join(heard(t, 0, drawnBook(source, 3).textOfBook()))
				check(t, "the other one", pair[0].Text(), api.OK, before, api.OK)
			}
		}
	}
}
