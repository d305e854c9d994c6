package post_test

import (
	"fmt"
	"math/rand/v2"
	"reflect"
	"regexp"
	"slices"
	"strconv"
	"strings"
	"testing"

	"skimmer/api"
	"skimmer/fund"
	"skimmer/post"
	"skimmer/print"
	"skimmer/tide"
)

// This file has what the other tests share: posts and lines, and the chapter's terms told word by word, to compare with.

// check compares a result and its error with those wanted.
func check[R any](t *testing.T, name string, got R, err api.Errno, want R, wantErr api.Errno) {
	t.Helper()
	if err != wantErr || !reflect.DeepEqual(got, want) {
		t.Errorf("%s: %#v, error %d, want %#v, error %d", name, got, err, want, wantErr)
	}
}

// checkList is check for lists, where nil and empty are the same.
func checkList[R comparable](t *testing.T, name string, got []R, err api.Errno, want []R, wantErr api.Errno) {
	t.Helper()
	if err != wantErr || !slices.Equal(got, want) {
		t.Errorf("%s: %v, error %d, want %v, error %d", name, got, err, want, wantErr)
	}
}

// must returns a result that has no error.
func must[R any](t *testing.T, name string) func(got R, err api.Errno) R {
	return func(got R, err api.Errno) R {
		t.Helper()
		if err != api.OK {
			t.Fatalf("%s: error %d", name, err)
		}
		return got
	}
}

// made returns a new post.
func made(t *testing.T, number int) *post.Post {
	t.Helper()
	return must[*post.Post](t, "New")(post.New(number))
}

// wrote returns a new post that has done lines.
func wrote(t *testing.T, number int, lines ...string) *post.Post {
	t.Helper()
	p := made(t, number)
	write(t, p, lines...)
	return p
}

func write(t *testing.T, p *post.Post, lines ...string) {
	t.Helper()
	for _, line := range lines {
		must[string](t, "Do "+line)(p.Do(line))
	}
}

// heard returns a new post that has heard texts.
func heard(t *testing.T, number int, texts ...string) *post.Post {
	t.Helper()
	p := made(t, number)
	for _, text := range texts {
		check(t, "Hear", p.Hear(text), api.OK, api.OK, api.OK)
	}
	return p
}

// join joins the books of other posts.
func join(t *testing.T, p *post.Post, others ...*post.Post) {
	t.Helper()
	for _, o := range others {
		check(t, "Join", p.Join(o), api.OK, api.OK, api.OK)
	}
}

func checkDo(t *testing.T, p *post.Post, line, want string, wantErr api.Errno) {
	t.Helper()
	got, err := p.Do(line)
	check(t, "Do "+strconv.Quote(line), got, err, want, wantErr)
}

func checkAsk(t *testing.T, p *post.Post, line, want string, wantErr api.Errno) {
	t.Helper()
	got, err := p.Ask(line)
	check(t, "Ask "+strconv.Quote(line), got, err, want, wantErr)
}

func entry(post, number, count int, line string) api.Entry {
	return api.Entry{Post: post, Number: number, Count: count, Line: line}
}

// full returns a post whose book has 60 entries of each of so many posts, from 0 on.
func full(t *testing.T, posts int) *post.Post {
	t.Helper()
	all := made(t, 3)
	for number := range posts {
		join(t, all, wrote(t, number, slices.Repeat([]string{"add a 1"}, api.MaxBook)...))
	}
	return all
}

// allPosts returns posts with books that are empty, short, full and of the greatest count.
func allPosts(t *testing.T) []*post.Post {
	t.Helper()
	own := wrote(t, 2, "put a x", "put b abc", "add c 7", "put put x")
	joined := made(t, 3)
	join(t, joined, own, wrote(t, 0, "put a y", "add c -9"))
	return []*post.Post{made(t, 0), made(t, 3), own, joined, full(t, 4), heard(t, 1, "0 1 1000000 put a x\n")}
}

// plainForms are the lines that are deeds, questions or joins, in the order of their first words.
func plainForms() map[string]*regexp.Regexp {
	forms := map[string]*regexp.Regexp{}
	for _, form := range []string{"put NAME ([ -~]+)", "drop NAME", "add NAME NUM", "text NAME", "stock NAME", "drift NAME NUM NUM", "beat NAME", "far NAME NAME", "share NUM((?: [a-z]{1,8}){1,8})", "join ([0-3])"} {
		verb, _, _ := strings.Cut(form, " ")
		form = strings.ReplaceAll(form, "NAME", "([a-z]{1,8})")
		form = strings.ReplaceAll(form, "NUM", "(0|-?[1-9][0-9]{0,3})")
		forms[verb] = regexp.MustCompile("^" + form + "$")
	}
	return forms
}

var forms = plainForms()

// plainWords returns the first word of a line that is a deed, a question or a join, and what stands in it; nothing if it is none.
func plainWords(line string) []string {
	verb, _, _ := strings.Cut(line, " ")
	form, ok := forms[verb]
	if !ok || verb == "put" && len(line) > api.MaxLine {
		return nil
	}
	words := form.FindStringSubmatch(line)
	if words == nil {
		return nil
	}
	return append([]string{verb}, words[1:]...)
}

func plainNumber(word string) int {
	n, _ := strconv.Atoi(word)
	return n
}

// plainPost is a post whose book is the entries in whatever order.
type plainPost struct {
	number int
	book   []api.Entry
}

// list returns the entries of a post.
func (p *plainPost) list(number int) []api.Entry {
	var l []api.Entry
	for n := 1; n <= api.MaxBook; n++ {
		for _, e := range p.book {
			if e.Post == number && e.Number == n {
				l = append(l, e)
			}
		}
	}
	return l
}

func (p *plainPost) inOrder() []api.Entry {
	l := slices.Clone(p.book)
	slices.SortStableFunc(l, func(a, b api.Entry) int { return a.Post - b.Post })
	slices.SortStableFunc(l, func(a, b api.Entry) int { return a.Count - b.Count })
	return l
}

func (p *plainPost) count() int {
	greatest := 0
	for _, e := range p.book {
		greatest = max(greatest, e.Count)
	}
	return greatest
}

// text looks for the last entry that says what text a name has.
func (p *plainPost) text(name string) (string, bool) {
	for _, e := range slices.Backward(p.inOrder()) {
		switch words := plainWords(e.Line); {
		case len(words) < 2 || words[1] != name:
		case words[0] == "put":
			return words[2], true
		case words[0] == "drop":
			return "", false
		}
	}
	return "", false
}

func (p *plainPost) stock(name string) int {
	sum := 0
	for _, e := range p.book {
		if words := plainWords(e.Line); len(words) == 3 && words[0] == "add" && words[1] == name {
			sum += plainNumber(words[2])
		}
	}
	return sum
}

func (p *plainPost) do(line string) (string, api.Errno) {
	words := plainWords(line)
	if len(words) == 0 || !slices.Contains([]string{"put", "drop", "add"}, words[0]) {
		return "", api.ErrCommand
	}
	if len(p.list(p.number)) == 60 || p.count() == 1000000 {
		return "", api.ErrLimit
	}
	before, ok := p.text(words[1])
	if words[0] == "drop" && !ok {
		return "", api.ErrNone
	}
	p.book = append(p.book, entry(p.number, len(p.list(p.number))+1, p.count()+1, line))
	switch words[0] {
	case "put":
		text, _ := p.text(words[1])
		return text, api.OK
	case "add":
		return fmt.Sprint(p.stock(words[1])), api.OK
	}
	return before, api.OK
}

func (p *plainPost) ask(line string) (string, api.Errno) {
	words := plainWords(line)
	if len(words) == 0 {
		return "", api.ErrCommand
	}
	var number int
	var err api.Errno
	text, has := p.text(words[1])
	switch words[0] {
	case "text":
		if !has {
			return "", api.ErrNone
		}
		return text, api.OK
	case "stock":
		number = p.stock(words[1])
	case "drift", "beat":
		if !has {
			return "", api.ErrNone
		}
		waves, bad := tide.Parse(text)
		if bad != api.OK {
			return "", bad
		}
		if words[0] == "beat" {
			number, err = tide.Beat(waves)
		} else {
			number, err = tide.Drift(waves, plainNumber(words[2]), plainNumber(words[3]))
		}
	case "far":
		other, hasOther := p.text(words[2])
		if !has || !hasOther {
			return "", api.ErrNone
		}
		number, err = print.Distance(text, other, api.Costs{Put: 1, Change: 1})
	case "share":
		return p.share(words)
	default:
		return "", api.ErrCommand
	}
	if err != api.OK {
		return "", err
	}
	return fmt.Sprint(number), api.OK
}

func (p *plainPost) share(words []string) (string, api.Errno) {
	var stocks []int
	for _, name := range strings.Fields(words[2]) {
		stocks = append(stocks, p.stock(name))
	}
	awards, err := fund.Whole(stocks, plainNumber(words[1]), 4)
	if err != api.OK {
		return "", err
	}
	return strings.Trim(fmt.Sprint(awards), "[]"), api.OK
}

// join takes what is missing, if what both have of a post is the same.
func (p *plainPost) join(o *plainPost) api.Errno {
	var missing []api.Entry
	for number := range 4 {
		mine, others := p.list(number), o.list(number)
		for i, e := range others {
			switch {
			case i >= len(mine):
				missing = append(missing, e)
			case mine[i] != e:
				return api.ErrFork
			}
		}
	}
	p.book = append(p.book, missing...)
	return api.OK
}

func (p *plainPost) hear(text string) api.Errno {
	l, err := plainRead(text)
	if err != api.OK {
		return err
	}
	return p.join(&plainPost{0, l})
}

func (p *plainPost) textOfBook() string {
	text := ""
	for _, e := range p.inOrder() {
		text += fmt.Sprintf("%d %d %d %s\n", e.Post, e.Number, e.Count, e.Line)
	}
	return text
}

var entryForm = regexp.MustCompile(`^([0-9]{1,9}) ([0-9]{1,9}) ([0-9]{1,9}) ([ -~]{0,60})$`)

// plainRead reads what may be entries, and looks whether they are a book and the text is theirs.
func plainRead(text string) ([]api.Entry, api.Errno) {
	var p plainPost
	for part := range strings.SplitSeq(text, "\n") {
		if words := entryForm.FindStringSubmatch(part); words != nil {
			p.book = append(p.book, entry(plainNumber(words[1]), plainNumber(words[2]), plainNumber(words[3]), words[4]))
		}
	}
	total := 0
	for number := range 4 {
		l := p.list(number)
		total += len(l)
		for i, e := range l {
			if e.Number != i+1 || e.Count < 1 || e.Count > 1000000 || i > 0 && e.Count <= l[i-1].Count {
				return nil, api.ErrForm
			}
		}
	}
	// Entries that no post's list has are of other posts or have other numbers.
	if total != len(p.book) || p.textOfBook() != text {
		return nil, api.ErrForm
	}
	return p.inOrder(), api.OK
}

// plainPlay does the lines of a script.
func plainPlay(lines []string) []string {
	var answers []string
	posts := []*plainPost{{0, nil}, {1, nil}, {2, nil}, {3, nil}}
	for _, line := range lines {
		answer, err := "", api.ErrCommand
		if len(line) > 2 && strings.Contains("0123", line[:1]) && line[1] == ' ' {
			answer, err = plainAnswer(posts, posts[line[0]-'0'], line[2:])
		}
		if err != api.OK {
			answer = fmt.Sprintf("error %d", err)
		}
		answers = append(answers, answer)
	}
	return answers
}

func plainAnswer(posts []*plainPost, p *plainPost, line string) (string, api.Errno) {
	if words := plainWords(line); len(words) > 0 && words[0] == "join" {
		err := p.join(posts[plainNumber(words[1])])
		return fmt.Sprint(len(p.book)), err
	}
	answer, err := p.do(line)
	if err == api.ErrCommand {
		answer, err = p.ask(line)
	}
	return answer, err
}

// pick returns one of several.
func pick[E any](source *rand.Rand, of ...E) E {
	return of[source.IntN(len(of))]
}

func drawnName(source *rand.Rand) string { return pick(source, "a", "b", "c", "abcdefgh") }

func drawnNumber(source *rand.Rand) string {
	return pick(source, "0", "0", "1", "2", "9", "10", "100", "200", "999", "1000", "9999", "-1", "-2", "-100", "-9999")
}

func drawnText(source *rand.Rand) string {
	return pick(source, "3,0,-3;1,-1", "1,2,1,2", "0", "-100", "abcd", "acbd", "h", strings.Repeat("a", 20), strings.Repeat("a", 21), "x", " ", "~", "a b", "  ", "put a b", "error 5")
}

// drawnDeed returns a deed, with such words that it may have an error.
func drawnDeed(source *rand.Rand) string {
	name := drawnName(source)
	return pick(source, "put "+name+" "+drawnText(source), "add "+name+" "+drawnNumber(source), "drop "+name)
}

// drawnQuestion returns a question, with such words that it may have an error.
func drawnQuestion(source *rand.Rand) string {
	name := drawnName(source)
	share := "share " + drawnNumber(source)
	for range 1 + source.IntN(8) {
		share += " " + drawnName(source)
	}
	return pick(source, "text "+name, "stock "+name, "drift "+name+" "+drawnNumber(source)+" "+drawnNumber(source), "beat "+name, "far "+name+" "+drawnName(source), share)
}

// spoiled returns a text that is often something else with a byte or two changed.
func spoiled(source *rand.Rand, text string) string {
	for range source.IntN(3) {
		i := source.IntN(len(text) + 1)
		with := pick(source, "", " ", "a", "A", "0", "1", "9", "-", "+", "\n", "\x1f", "\x7f", "\xff", "é", "~", "\t")
		text = text[:i] + with + text[min(len(text), i+source.IntN(2)):]
	}
	return text
}

// drawnBook returns the entries of a book that may say anything, and its counts.
func drawnBook(source *rand.Rand, most int) *plainPost {
	p := &plainPost{source.IntN(4), nil}
	for number := range 4 {
		count := source.IntN(3)
		for n := range source.IntN(most + 1) {
			count += 1 + source.IntN(4)
			line := drawnDeed(source)
			if source.IntN(3) == 0 {
				line = pick(source, "", "x", " ", "what now", "text a", "join 1", "drop a", "add a 01", "put a  ", "put A x", strings.Repeat("~", 60), strings.Repeat(" ", 60))
			}
			p.book = append(p.book, entry(number, n+1, count, line))
		}
	}
	return p
}
