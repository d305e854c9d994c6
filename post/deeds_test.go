package post_test

import (
	"math/rand/v2"
	"slices"
	"strconv"
	"strings"
	"testing"

	"skimmer/api"
)

// badDeeds are lines that are no deeds.
func badDeeds() []string {
	return []string{
		"", " ", "x", "put", "drop", "add", "Put a x", "PUT a x", "puta x", "pu a x", "puts a x", " put a x", "\tput a x",
		"put ", "put a", "put a ", "put  x", "put  a x", "put A x", "put aB x", "put a1 x", "put a- x", "put é x", "put abcdefghi x", "put abcdefghi  ", "put a\tx", "put a x\n", "put\ta x", "put a \x1f", "put a \x7f", "put a \x80", "put a \xff", "put a \x00", "put a é",
		"put a " + strings.Repeat("x", 55), "put a " + strings.Repeat("x", 1000),
		"drop ", "drop  a", "drop a ", "drop a b", "drop A", "drop 1", "drop abcdefghi", "drop a\n", " drop a", "drop  ",
		"add a", "add a ", "add  1", "add  a 1", "add a  1", "add a 1 ", "add a 1 2", "add A 1", "add abcdefghi 1", "add 1 a", "add 1", "add a x", "add a 01", "add a 00", "add a -0", "add a +1", "add a -01", "add a --1", "add a -", "add a 10000", "add a -10000", "add a 99999999999999999999", "add a 1.0", "add a 1e1", "add a 0x1", "add a 1_0", "add a 1\n", "add a ٣",
	}
}

// badQuestions are lines that are no questions.
func badQuestions() []string {
	names := " a b c d e f g h"
	return []string{
		"", " ", "x", "Text a", "texta", "texts a", " text a", "what a",
		"text", "text ", "text  a", "text a ", "text a b", "text A", "text 1", "text abcdefghi", "text a\n", "text a\x7f",
		"stock", "stock ", "stock  a", "stock a ", "stock a b", "stock A", "stock abcdefghi", "stock a 1",
		"drift", "drift a", "drift a 0", "drift a 0 ", "drift a 0 1 ", "drift a 0 1 2", "drift a  0 1", "drift a 0  1", "drift  a 0 1", "drift A 0 1", "drift abcdefghi 0 1", "drift  0 1", "drift 0 1", "drift 0 1 a", "drift a 00 1", "drift a 0 01", "drift a -0 1", "drift a 0 -0", "drift a +1 1", "drift a 1 +1", "drift a 10000 1", "drift a 1 10000", "drift a -10000 1", "drift a b 1", "drift a 1 b",
		"beat", "beat ", "beat a ", "beat a b", "beat A", "beat abcdefghi", "beat  a",
		"far", "far ", "far a", "far a ", "far a b ", "far a b c", "far a  b", "far  a b", "far A b", "far a B", "far abcdefghi b", "far a abcdefghi", "far a 1",
		"share", "share ", "share 1", "share 1 ", "share a", "share a b", "share  1 a", "share 1  a", "share 1 a ", "share 1 a  b", "share 01 a", "share -0 a", "share +1 a", "share 10000 a", "share -10000 a", "share 1 A", "share 1 a B", "share 1 abcdefghi", "share 1 a abcdefghi", "share 1 2", "share 1 a 2", "share 1" + names + " i", "share 1" + names + " ", "share 1" + names + names, "share" + names, "share 1" + strings.Repeat(" a", 100),
	}
}

func goodDeeds() []string {
	return []string{"put a x", "put a  ", "drop a", "add a 1", "put a text b", "add text 1", "put put put", "drop drop", "add add 0"}
}

func goodQuestions() []string {
	return []string{"text a", "stock a", "drift a 0 1", "beat a", "far a b", "share 1 a", "text put", "text text", "stock stock", "share 0 share"}
}

// joins are lines that are no deeds or questions, as they are told to no post alone.
func joins() []string {
	return []string{"join", "join 0", "join 1", "join 4", "join a", "0 put a x", "0 text a"}
}

// P10.2, P10.4: what is no deed is none for any post, and writes nothing.
func TestNoDeeds(t *testing.T) {
	for _, line := range slices.Concat(badDeeds(), badQuestions(), goodQuestions(), joins()) {
		for _, p := range allPosts(t) {
			before := p.Text()
			checkDo(t, p, line, "", api.ErrCommand)
			check(t, "Text", p.Text(), api.OK, before, api.OK)
		}
	}
}

// P10.4: put.
func TestPut(t *testing.T) {
	p := made(t, 0)
	for _, x := range []struct{ line, name, text string }{
		{"put a x", "a", "x"}, {"put a y", "a", "y"}, {"put abcdefgh x", "abcdefgh", "x"}, {"put z a b  c ", "z", "a b  c "}, {"put a  ", "a", " "}, {"put a  x", "a", " x"}, {"put a   ", "a", "  "}, {"put b A1~ ", "b", "A1~ "}, {"put put put", "put", "put"}, {"put text text a", "text", "text a"}, {"put a error 5", "a", "error 5"},
		{"put abcdefgh " + strings.Repeat("~", 47), "abcdefgh", strings.Repeat("~", 47)},
	} {
		checkDo(t, p, x.line, x.text, api.OK)
		checkAsk(t, p, "text "+x.name, x.text, api.OK)
	}
	checkAsk(t, p, "text b", "A1~ ", api.OK)
	checkAsk(t, p, "text abcdefg", "", api.ErrNone)
	checkAsk(t, p, "stock a", "0", api.OK)
}

// P10.4: drop.
func TestDrop(t *testing.T) {
	p := made(t, 3)
	checkDo(t, p, "drop a", "", api.ErrNone)
	write(t, p, "put a x", "put b z", "put a y", "add c 1")
	checkDo(t, p, "drop c", "", api.ErrNone)
	checkDo(t, p, "drop a", "y", api.OK)
	checkAsk(t, p, "text a", "", api.ErrNone)
	checkAsk(t, p, "text b", "z", api.OK)
	checkDo(t, p, "drop a", "", api.ErrNone)
	checkDo(t, p, "put a x", "x", api.OK)
	checkAsk(t, p, "text a", "x", api.OK)
	checkDo(t, p, "drop a", "x", api.OK)
	check(t, "entries", p.Seen(), api.OK, [4]int{0, 0, 0, 7}, api.OK)
	checkDo(t, p, "put abcdefgh  ", " ", api.OK)
	checkDo(t, p, "drop abcdefgh", " ", api.OK)
	checkDo(t, p, "drop abcdefgh", "", api.ErrNone)
}

// P10.4: add.
func TestAdd(t *testing.T) {
	p := made(t, 0)
	sum := 0
	for _, number := range []int{0, 1, -1, 9, 10, -5, -100, 99, 100, 999, 1000, 9999, -9999, -9999, 0} {
		sum += number
		checkDo(t, p, "add abcdefgh "+strconv.Itoa(number), strconv.Itoa(sum), api.OK)
		checkAsk(t, p, "stock abcdefgh", strconv.Itoa(sum), api.OK)
		checkAsk(t, p, "stock a", "0", api.OK)
	}
	// A stock and a text are two things.
	write(t, p, "add a -7", "put a x", "drop a")
	checkAsk(t, p, "stock a", "-7", api.OK)
	checkAsk(t, p, "text a", "", api.ErrNone)
	whole := heard(t, 1)
	for number := range 4 {
		join(t, whole, wrote(t, number, slices.Repeat([]string{"add a -9999"}, 60)...))
	}
	checkAsk(t, whole, "stock a", "-2399760", api.OK)
}

// P10.4: what in a book is no deed, or a deed with an error, says nothing.
func TestSaysNothing(t *testing.T) {
	for _, line := range slices.Concat(badDeeds(), badQuestions(), goodQuestions(), joins(), []string{"drop b", "drop zzz"}) {
		if len(line) > api.MaxLine || strings.ContainsFunc(line, func(r rune) bool { return r < 0x20 || r > 0x7e }) {
			continue
		}
		p := heard(t, 1, "0 1 1 put a x\n0 2 2 "+line+"\n0 3 3 add a 7\n")
		checkAsk(t, p, "text a", "x", api.OK)
		checkAsk(t, p, "stock a", "7", api.OK)
		checkAsk(t, p, "text b", "", api.ErrNone)
		check(t, "Seen", p.Seen(), api.OK, [4]int{3}, api.OK)
	}
	// A drop that was without a text when it was told is one with a text behind another post's put, and the other way round.
	p := heard(t, 1, "3 1 5 drop a\n3 2 7 put a z\n")
	checkAsk(t, p, "text a", "z", api.OK)
	join(t, p, heard(t, 0, "0 1 1 put a x\n"), heard(t, 0, "2 1 9 drop a\n2 2 10 drop a\n"))
	checkAsk(t, p, "text a", "", api.ErrNone)
	o := heard(t, 1, "0 1 1 put a x\n1 1 2 drop a\n2 1 3 drop a\n3 1 4 put a y\n")
	checkAsk(t, o, "text a", "y", api.OK)
}

// P10.4, terms: the entries say in order, of one count those of the post with the lesser number first.
func TestOrderOfDeeds(t *testing.T) {
	for _, x := range []struct{ text, want string }{
		{"0 1 1 put a x\n1 1 1 put a y\n", "y"},
		{"0 1 2 put a x\n1 1 2 drop a\n", ""},
		{"0 1 2 drop a\n1 1 2 put a y\n", "y"},
		{"1 1 1 put a y\n0 1 2 put a x\n", "x"},
		{"3 1 1 put a y\n2 1 3 put a x\n0 1 10 put a z\n3 2 11 drop b\n", "z"},
		{"0 1 9 put a x\n3 1 9 put a y\n2 1 10 x\n", "y"},
	} {
		p := heard(t, 2, x.text)
		if x.want == "" {
			checkAsk(t, p, "text a", "", api.ErrNone)
			continue
		}
		checkAsk(t, p, "text a", x.want, api.OK)
	}
}

// P10.4: books of all kinds say what they say entry by entry, and a deed is answered from it.
func TestDrawnBooks(t *testing.T) {
	for seed := range uint64(400) {
		source := rand.New(rand.NewPCG(10, 1000+seed))
		plain := drawnBook(source, 2+source.IntN(12))
		p := heard(t, plain.number, plain.textOfBook())
		for range 30 {
			line := drawnQuestion(source)
			want, wantErr := plain.ask(line)
			checkAsk(t, p, line, want, wantErr)
		}
		for range 5 {
			line := drawnDeed(source)
			want, wantErr := plain.do(line)
			checkDo(t, p, line, want, wantErr)
			check(t, "Text", p.Text(), api.OK, plain.textOfBook(), api.OK)
		}
	}
}
