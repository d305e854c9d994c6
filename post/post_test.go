package post_test

import (
	"math/rand/v2"
	"slices"
	"strconv"
	"strings"
	"testing"

	"skimmer/api"
	"skimmer/post"
)

// P10.1: the numbers of posts are from 0 to 3, and their books are empty.
func TestNew(t *testing.T) {
	for number := range 4 {
		p := made(t, number)
		check(t, "Number", p.Number(), api.OK, number, api.OK)
		check(t, "Count", p.Count(), api.OK, 0, api.OK)
		checkList(t, "Book", p.Book(), api.OK, nil, api.OK)
		check(t, "Text", p.Text(), api.OK, "", api.OK)
		check(t, "Seen", p.Seen(), api.OK, [4]int{}, api.OK)
	}
	for _, number := range []int{-1, 4, 5, -1 << 63, 1<<63 - 1} {
		p, err := post.New(number)
		check(t, "New", p, err, nil, api.ErrArg)
	}
}

// P10.1: Count is the greatest count of all entries, whoever wrote them.
func TestCount(t *testing.T) {
	for _, x := range []struct {
		text string
		want int
	}{{"", 0}, {"0 1 1 x\n", 1}, {"3 1 1000000 x\n", 1000000}, {"0 1 5 x\n0 2 8 x\n2 1 9 x\n", 9}, {"2 1 5 x\n0 1 8 x\n2 2 9 x\n0 2 11 x\n", 11}, {"1 1 7 x\n3 1 7 x\n", 7}} {
		p := heard(t, 2, x.text)
		check(t, "Count", p.Count(), api.OK, x.want, api.OK)
		check(t, "Number", p.Number(), api.OK, 2, api.OK)
	}
}

// P10.1, P10.12: a copy is the same, and goes its own way.
func TestCopy(t *testing.T) {
	p := wrote(t, 1, "put a x", "add n 7")
	c := p.Copy()
	check(t, "Number of Copy", c.Number(), api.OK, 1, api.OK)
	check(t, "Same", post.Same(p, c), api.OK, true, api.OK)
	write(t, c, "put a y")
	write(t, p, "put a z", "add n 1")
	checkAsk(t, p, "text a", "z", api.OK)
	checkAsk(t, c, "text a", "y", api.OK)
	checkAsk(t, c, "stock n", "7", api.OK)
	check(t, "Text of the copy", c.Text(), api.OK, "1 1 1 put a x\n1 2 2 add n 7\n1 3 3 put a y\n", api.OK)
	check(t, "Text of the post", p.Text(), api.OK, "1 1 1 put a x\n1 2 2 add n 7\n1 3 3 put a z\n1 4 4 add n 1\n", api.OK)
	check(t, "Join of both", c.Join(p), api.OK, api.ErrFork, api.OK)
	check(t, "Copy of an empty post", made(t, 3).Copy().Text(), api.OK, "", api.OK)
}

// P10.2: what Do writes, and with which number and count.
func TestDo(t *testing.T) {
	p := made(t, 2)
	checkDo(t, p, "put a x", "x", api.OK)
	checkDo(t, p, "add b 3", "3", api.OK)
	join(t, p, heard(t, 0, "0 1 7 add b 5\n1 1 9 x\n"))
	checkDo(t, p, "add b 1", "9", api.OK)
	checkDo(t, p, "drop a", "x", api.OK)
	checkList(t, "Book", p.Book(), api.OK, []api.Entry{entry(2, 1, 1, "put a x"), entry(2, 2, 2, "add b 3"), entry(0, 1, 7, "add b 5"), entry(1, 1, 9, "x"), entry(2, 3, 10, "add b 1"), entry(2, 4, 11, "drop a")}, api.OK)
	// Entries of its own number that it has heard are its own.
	o := heard(t, 1, "1 1 4 x\n")
	checkDo(t, o, "add b 1", "1", api.OK)
	check(t, "Text", o.Text(), api.OK, "1 1 4 x\n1 2 5 add b 1\n", api.OK)
}

// P10.2: a line is written as it is, up to 60 bytes and with all bytes from 20 to 7E.
func TestLongLines(t *testing.T) {
	all := ""
	for c := byte(0x20); c <= 0x7e; c++ {
		all += string(c)
	}
	for _, text := range []string{"x", " ", "~", strings.Repeat(" ", 54), strings.Repeat("~", 54), all[:54], all[54:], all[41:]} {
		p := wrote(t, 0, "add n 1")
		checkDo(t, p, "put a "+text, text, api.OK)
		check(t, "the line", p.Book()[1], api.OK, entry(0, 2, 2, "put a "+text), api.OK)
	}
	for c := range 256 {
		p := made(t, 0)
		if c >= 0x20 && c <= 0x7e {
			checkDo(t, p, "put a x"+string([]byte{byte(c)}), "x"+string([]byte{byte(c)}), api.OK)
			continue
		}
		checkDo(t, p, "put a x"+string([]byte{byte(c)}), "", api.ErrCommand)
		checkDo(t, p, "put a "+string([]byte{byte(c)})+"x", "", api.ErrCommand)
	}
	checkDo(t, made(t, 0), "put a "+strings.Repeat("x", 55), "", api.ErrCommand)
	checkDo(t, made(t, 0), "put abcdefgh "+strings.Repeat("x", 47), strings.Repeat("x", 47), api.OK)
	checkDo(t, made(t, 0), "put abcdefgh "+strings.Repeat("x", 48), "", api.ErrCommand)
	checkDo(t, made(t, 0), "put a é", "", api.ErrCommand)
}

// P10.2: a post writes 60 entries, whatever others have written.
func TestFullBook(t *testing.T) {
	p := wrote(t, 0, slices.Repeat([]string{"add a 1"}, 60)...)
	checkDo(t, p, "add a 1", "", api.ErrLimit)
	checkDo(t, p, "put a x", "", api.ErrLimit)
	check(t, "Seen", p.Seen(), api.OK, [4]int{60, 0, 0, 0}, api.OK)
	o := full(t, 3)
	check(t, "Seen", o.Seen(), api.OK, [4]int{60, 60, 60, 0}, api.OK)
	for i := range 60 {
		checkDo(t, o, "add b 1", strconv.Itoa(i+1), api.OK)
	}
	checkDo(t, o, "add b 1", "", api.ErrLimit)
	check(t, "Seen", o.Seen(), api.OK, [4]int{60, 60, 60, 60}, api.OK)
	check(t, "Count", o.Count(), api.OK, 120, api.OK)
	check(t, "entries", len(o.Book()), api.OK, 240, api.OK)
	checkAsk(t, o, "stock a", "180", api.OK)
	checkAsk(t, o, "stock b", "60", api.OK)
}

// P10.2: the greatest count is 10^6.
func TestGreatestCount(t *testing.T) {
	p := heard(t, 0, "1 1 999999 x\n")
	checkDo(t, p, "add a 1", "1", api.OK)
	check(t, "Count", p.Count(), api.OK, 1000000, api.OK)
	checkDo(t, p, "add a 1", "", api.ErrLimit)
	for number := range 4 {
		o := heard(t, number, "2 1 1000000 add a 1\n")
		checkDo(t, o, "add a 1", "", api.ErrLimit)
		checkAsk(t, o, "stock a", "1", api.OK)
	}
}

// P10.3: of each post the longer list.
func TestJoin(t *testing.T) {
	one := "0 1 1 a\n0 2 2 b\n2 1 3 c\n"
	for _, x := range []struct {
		name, p, o, want string
	}{
		{"two empty books", "", "", ""},
		{"an empty book", one, "", one},
		{"with an empty book", "", one, one},
		{"the same book", one, one, one},
		{"less", one, "0 1 1 a\n2 1 3 c\n", one},
		{"more", "0 1 1 a\n2 1 3 c\n", one, one},
		{"more of the one and less of the other", "0 1 1 a\n2 1 3 c\n2 2 4 d\n", one, "0 1 1 a\n0 2 2 b\n2 1 3 c\n2 2 4 d\n"},
		{"other posts", one, "1 1 2 x\n3 1 2 y\n", "0 1 1 a\n0 2 2 b\n1 1 2 x\n3 1 2 y\n2 1 3 c\n"},
		{"one count at all posts", "0 1 5 a\n3 1 5 b\n", "1 1 5 c\n2 1 5 d\n", "0 1 5 a\n1 1 5 c\n2 1 5 d\n3 1 5 b\n"},
		{"the least and the greatest count", "3 1 1000000 a\n", "0 1 1 b\n", "0 1 1 b\n3 1 1000000 a\n"},
	} {
		p, o := heard(t, 1, x.p), heard(t, 0, x.o)
		join(t, p, o)
		check(t, x.name, p.Text(), api.OK, x.want, api.OK)
		check(t, "the other post", o.Text(), api.OK, x.o, api.OK)
		check(t, "Number", p.Number(), api.OK, 1, api.OK)
		hearing := heard(t, 1, x.p, x.o)
		check(t, x.name+", heard", hearing.Text(), api.OK, x.want, api.OK)
	}
}

// P10.3: lists of one post that are not the beginnings of one another fork, whatever the others are.
func TestForks(t *testing.T) {
	for _, x := range []struct {
		name, p, o string
	}{
		{"another line", "0 1 1 a\n", "0 1 1 b\n"},
		{"another count", "0 1 1 a\n", "0 1 2 a\n"},
		{"a longer list", "3 1 1 a\n", "3 1 1 b\n3 2 2 c\n"},
		{"the second entry", "1 1 1 a\n1 2 2 b\n", "1 1 1 a\n1 2 3 b\n1 3 4 c\n"},
		{"the last post alone", "0 1 1 a\n1 1 1 a\n2 1 1 a\n3 1 1 a\n", "0 1 1 a\n1 1 1 a\n2 1 1 a\n3 1 1 b\n"},
		{"much more", "0 1 1 a\n2 1 7 a\n", "0 1 1 a\n0 2 2 b\n1 1 3 c\n2 1 8 a\n"},
	} {
		for number := range 4 {
			p, o := heard(t, number, x.p), heard(t, 0, x.o)
			check(t, x.name, p.Join(o), api.OK, api.ErrFork, api.OK)
			check(t, x.name, o.Join(p), api.OK, api.ErrFork, api.OK)
			check(t, x.name, p.Hear(x.o), api.OK, api.ErrFork, api.OK)
			check(t, "a book that forks", p.Text(), api.OK, x.p, api.OK)
			check(t, "a book that forks", o.Text(), api.OK, x.o, api.OK)
		}
	}
}

// P10.3: a post joins itself, full books are joined, and what one has heard is not heard by the other post.
func TestJoinOthers(t *testing.T) {
	p := wrote(t, 1, "put a x")
	join(t, p, p)
	check(t, "Text", p.Text(), api.OK, "1 1 1 put a x\n", api.OK)
	all := full(t, 4)
	check(t, "Seen", all.Seen(), api.OK, [4]int{60, 60, 60, 60}, api.OK)
	join(t, all, all)
	o := made(t, 0)
	join(t, o, all)
	check(t, "Same", post.Same(o, all), api.OK, true, api.OK)
	checkDo(t, o, "add a 1", "", api.ErrLimit)
	// Both go on alone: what is written behind a Join is written in one book.
	q := made(t, 2)
	join(t, q, p)
	write(t, p, "put a y")
	write(t, q, "put a z")
	check(t, "Text", p.Text(), api.OK, "1 1 1 put a x\n1 2 2 put a y\n", api.OK)
	check(t, "Text", q.Text(), api.OK, "1 1 1 put a x\n2 1 2 put a z\n", api.OK)
	// Of one memory they would write into one another's lists, as both would write as the same post.
	r := made(t, 1)
	join(t, r, p)
	write(t, r, "add r 1")
	write(t, p, "add p 1")
	check(t, "the last line", r.Book()[2].Line, api.OK, "add r 1", api.OK)
	check(t, "the last line", p.Book()[2].Line, api.OK, "add p 1", api.OK)
}

// P10.3: Seen and Since, for numbers of all kinds.
func TestSince(t *testing.T) {
	text := "1 1 1 a\n0 1 2 b\n3 1 2 c\n1 2 3 d\n0 2 4 e\n1 3 4 f\n"
	p := heard(t, 2, text)
	check(t, "Seen", p.Seen(), api.OK, [4]int{2, 3, 0, 1}, api.OK)
	all := p.Book()
	for _, x := range []struct {
		seen [4]int
		want []api.Entry
	}{
		{[4]int{}, all},
		{[4]int{2, 3, 0, 1}, nil},
		{[4]int{-1, -60, -1 << 63, -5}, all},
		{[4]int{3, 4, 1, 2}, nil},
		{[4]int{1<<63 - 1, 1<<63 - 1, 60, 61}, nil},
		{[4]int{1, 1, 0, 0}, all[2:]},
		{[4]int{2, 0, 0, 0}, []api.Entry{all[0], all[2], all[3], all[5]}},
		{[4]int{0, 3, 0, 1}, []api.Entry{all[1], all[4]}},
		{[4]int{9, 2, -1, 9}, all[5:]},
	} {
		checkList(t, "Since", p.Since(x.seen), api.OK, x.want, api.OK)
	}
	checkList(t, "Since of an empty book", made(t, 0).Since([4]int{-1, -1, -1, -1}), api.OK, nil, api.OK)
	whole := full(t, 4)
	checkList(t, "Since of a full book", whole.Since([4]int{59, 60, 58, 61}), api.OK, []api.Entry{entry(2, 59, 59, "add a 1"), entry(0, 60, 60, "add a 1"), entry(2, 60, 60, "add a 1")}, api.OK)
}

// P10.1 to P10.6 for posts that do, ask, join, hear and are copied in any order.
func TestSessions(t *testing.T) {
	for seed := range uint64(60) {
		source := rand.New(rand.NewPCG(10, seed))
		var posts []*post.Post
		var plain []*plainPost
		for range 5 {
			number := source.IntN(4)
			posts, plain = append(posts, made(t, number)), append(plain, &plainPost{number, nil})
		}
		for range 120 {
			i, k := source.IntN(5), source.IntN(5)
			step(t, source, posts, plain, i, k)
			check(t, "Count", posts[i].Count(), api.OK, plain[i].count(), api.OK)
			checkList(t, "Book", posts[i].Book(), api.OK, plain[i].inOrder(), api.OK)
			check(t, "Text", posts[i].Text(), api.OK, plain[i].textOfBook(), api.OK)
			check(t, "Same", post.Same(posts[i], posts[k]), api.OK, slices.Equal(plain[i].inOrder(), plain[k].inOrder()), api.OK)
		}
	}
}

// step does the same with posts and with posts told word by word.
func step(t *testing.T, source *rand.Rand, posts []*post.Post, plain []*plainPost, i, k int) {
	t.Helper()
	switch source.IntN(8) {
	case 0, 1, 2:
		line := spoiled(source, drawnDeed(source))
		want, wantErr := plain[i].do(line)
		checkDo(t, posts[i], line, want, wantErr)
	case 3, 4:
		line := spoiled(source, drawnQuestion(source))
		want, wantErr := plain[i].ask(line)
		checkAsk(t, posts[i], line, want, wantErr)
	case 5:
		check(t, "Join", posts[i].Join(posts[k]), api.OK, plain[i].join(plain[k]), api.OK)
	case 6:
		text := spoiled(source, plain[k].textOfBook())
		check(t, "Hear", posts[i].Hear(text), api.OK, plain[i].hear(text), api.OK)
	case 7:
		posts[i], plain[i] = posts[k].Copy(), &plainPost{plain[k].number, slices.Clone(plain[k].book)}
	}
}
