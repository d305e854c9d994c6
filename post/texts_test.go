package post_test

import (
	"fmt"
	"math/rand/v2"
	"slices"
	"strings"
	"testing"

	"skimmer/api"
	"skimmer/post"
)

// goodTexts are texts of books: empty, with 60 entries of one post and of each, with counts of 1 and of 10^6, of one count at all posts, and with lines of no, one and 60 bytes.
func goodTexts(t *testing.T) []string {
	t.Helper()
	spread := ""
	for i := range 60 {
		spread += fmt.Sprintf("3 %d %d x\n", i+1, 999941+i)
	}
	return []string{
		"", "0 1 5 what\n", "0 1 5 \n", "0 1 1 x\n", "3 1 1000000 x\n", "0 1 5 x y  z\n1 1 5 x\n0 2 6 x\n", "0 1 1 \n1 1 1 \n2 1 1 \n3 1 1 \n", "2 1 1000000  \n3 1 1000000 ~\n", "0 1 5   \n", "1 1 3 0 1 3 x\n",
		"1 1 1 " + strings.Repeat("x", 60) + "\n", "1 1 1 " + strings.Repeat(" ", 60) + "\n", "1 1 1 " + strings.Repeat("~", 59) + "\n1 2 2 x\n",
		full(t, 1).Text(), full(t, 4).Text(), spread,
	}
}

// badTexts are texts of no books.
func badTexts(t *testing.T) []string {
	t.Helper()
	whole := full(t, 4).Text()
	many := ""
	for i := range 61 {
		many += fmt.Sprintf("2 %d %d x\n", i+1, i+1)
	}
	return []string{
		"\n", "\n\n", "x", "x\n", " \n", "\x00",
		"0 1 5 x", "0 1 5 x\n0 2 6 y", "0 1 5 x\n\n", "\n0 1 5 x\n", "0 1 5 x\n\n0 2 6 x\n", "0 1 5 x\r\n", "0 1 5 x\n ",
		"0 1 5\n", "0 1\n", "0\n", "0 1 x\n", "0 5 x\n", "1 5 x\n", " 0 1 5 x\n", "0  1 5 x\n", "0 1  5 x\n", "0\t1 5 x\n", "0 1 5\tx\n",
		"1 1 5 x\n0 1 5 x\n", "1 1 6 x\n0 1 5 x\n", "0 1 5 x\n0 2 6 x\n1 1 5 x\n", "0 2 6 x\n0 1 5 x\n", "3 1 10 x\n0 1 9 x\n",
		"0 2 5 x\n", "0 1 5 x\n0 3 6 x\n", "0 1 5 x\n1 2 5 x\n", "0 1 5 x\n0 1 6 x\n", "0 1 5 x\n0 1 5 x\n", "0 0 5 x\n", "0 -1 5 x\n", "0 61 5 x\n", many, whole + "0 61 61 x\n",
		"0 1 5 x\n0 2 5 x\n", "0 1 5 x\n0 2 4 x\n", "0 1 0 x\n", "0 1 -1 x\n", "0 1 1000001 x\n", "0 1 1000000 x\n0 2 1000001 x\n", "0 1 1000000 x\n0 2 1000000 x\n", "0 1 99999999999999999999 x\n", "0 99999999999999999999 5 x\n", "99999999999999999999 1 5 x\n", "0 18446744073709551617 5 x\n", "18446744073709551616 1 5 x\n",
		"00 1 5 x\n", "0 01 5 x\n", "0 1 05 x\n", "-0 1 5 x\n", "+0 1 5 x\n", "0 +1 5 x\n", "0 1 +5 x\n", "0 1 5. x\n", "0 1 0x5 x\n", "0 1 1_0 x\n", "a 1 5 x\n", "0 a 5 x\n", "0 1 a x\n", " 1 5 x\n", "0  5 x\n", "0 1  x\n",
		"4 1 5 x\n", "-1 1 5 x\n", "10 1 5 x\n", "0 1 5 x\n4 1 6 x\n",
		"0 1 5 x\x7f\n", "0 1 5 \x1f\n", "0 1 5 \x00\n", "0 1 5 \t\n", "0 1 5 \x80\n", "0 1 5 \xff\n", "0 1 5 é\n", "0 1 5 x\n1 1 6 \x7f\n",
		"0 1 5 " + strings.Repeat("x", 61) + "\n", "0 1 5 " + strings.Repeat("x", 1000) + "\n", strings.Repeat("x", 100000), strings.Repeat("\n", 100000),
		whole[:len(whole)-1], whole[1:], whole + "\n", whole + "0 1 1 add a 1\n", whole[len("0 1 1 add a 1\n"):],
	}
}

// P10.6: Text and Read give the entries and the text of each book.
func TestTexts(t *testing.T) {
	for _, text := range goodTexts(t) {
		l, err := post.Read(text)
		want, wantErr := plainRead(text)
		checkList(t, "Read", l, err, want, wantErr)
		check(t, "entries", len(l), err, strings.Count(text, "\n"), api.OK)
		for number := range 4 {
			p := heard(t, number, text)
			check(t, "Text", p.Text(), api.OK, text, api.OK)
			checkList(t, "Book", p.Book(), api.OK, l, api.OK)
		}
	}
	l, err := post.Read("0 1 5 x y  z\n1 1 5 \n0 2 16 ~\n")
	checkList(t, "Read", l, err, []api.Entry{entry(0, 1, 5, "x y  z"), entry(1, 1, 5, ""), entry(0, 2, 16, "~")}, api.OK)
}

// P10.3, P10.6: texts of no book are neither read nor heard.
func TestNoTexts(t *testing.T) {
	for _, text := range badTexts(t) {
		l, err := post.Read(text)
		checkList(t, "Read", l, err, nil, api.ErrForm)
		_, wantErr := plainRead(text)
		check(t, "the same told word by word", wantErr, api.OK, api.ErrForm, api.OK)
		for _, p := range allPosts(t) {
			before := p.Text()
			check(t, "Hear", p.Hear(text), api.OK, api.ErrForm, api.OK)
			check(t, "Text", p.Text(), api.OK, before, api.OK)
		}
	}
}

// P10.6: all bytes that a line may have, and all others.
func TestBytes(t *testing.T) {
	for c := range 256 {
		text := "2 1 7 a" + string([]byte{byte(c)}) + "b\n"
		l, err := post.Read(text)
		if c < 0x20 || c > 0x7e {
			checkList(t, "Read", l, err, nil, api.ErrForm)
			continue
		}
		checkList(t, "Read", l, err, []api.Entry{entry(2, 1, 7, text[6:9])}, api.OK)
	}
}

// P10.6: texts that are nearly those of books.
func TestNearTexts(t *testing.T) {
	good := 0
	for seed := range uint64(3000) {
		source := rand.New(rand.NewPCG(10, 5000+seed))
		text := spoiled(source, drawnBook(source, 4).textOfBook())
		if source.IntN(4) == 0 {
			parts := strings.SplitAfter(text, "\n")
			i, k := source.IntN(len(parts)), source.IntN(len(parts))
			parts[i], parts[k] = parts[k], parts[i]
			text = strings.Join(parts, "")
		}
		want, wantErr := plainRead(text)
		l, err := post.Read(text)
		checkList(t, "Read "+text, l, err, want, wantErr)
		if err == api.OK {
			good++
		}
	}
	if good < 500 || good > 2500 {
		t.Errorf("%d of 3000 texts are those of books", good)
	}
}

// P10.6: Same asks for the book alone, not for the number.
func TestSame(t *testing.T) {
	texts := goodTexts(t)
	for i, text := range texts {
		for k, other := range texts {
			for number := range 4 {
				p, o := heard(t, number, text), heard(t, 0, other)
				check(t, "Same", post.Same(p, o), api.OK, i == k, api.OK)
				check(t, "Same", post.Same(p, p), api.OK, true, api.OK)
			}
		}
	}
	p := wrote(t, 0, "put a x", "add a 1")
	for _, text := range []string{"0 1 1 put a x\n0 2 2 add a 2\n", "0 1 1 put a x\n0 2 3 add a 1\n", "0 1 1 put a x\n", "1 1 1 put a x\n1 2 2 add a 1\n", "0 1 1 put a x\n0 2 2 add a 1\n0 3 3 x\n", "0 1 1 put a x\n3 1 1 x\n0 2 2 add a 1\n", ""} {
		check(t, "Same", post.Same(p, heard(t, 0, text)), api.OK, false, api.OK)
		check(t, "Same", post.Same(heard(t, 0, text), p), api.OK, false, api.OK)
	}
}

// P10.6: Book is in order, by Count and then by Post.
func TestBookInOrder(t *testing.T) {
	for seed := range uint64(200) {
		source := rand.New(rand.NewPCG(10, 9000+seed))
		plain := drawnBook(source, 60)
		p := made(t, 0)
		for _, number := range source.Perm(4) {
			part := &plainPost{0, plain.list(number)}
			check(t, "Hear", p.Hear(part.textOfBook()), api.OK, api.OK, api.OK)
		}
		book := p.Book()
		checkList(t, "Book", book, api.OK, plain.inOrder(), api.OK)
		check(t, "in order", slices.IsSortedFunc(book, func(a, b api.Entry) int { return 4*(a.Count-b.Count) + a.Post - b.Post }), api.OK, true, api.OK)
	}
}
