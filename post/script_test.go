package post_test

import (
	"math/rand/v2"
	"slices"
	"strconv"
	"strings"
	"testing"

	"skimmer/api"
	"skimmer/post"
)

// checkPlay does lines, each with the answer that is wanted behind it.
func checkPlay(t *testing.T, steps ...string) {
	t.Helper()
	var lines, want []string
	for i := 0; i < len(steps); i += 2 {
		lines, want = append(lines, steps[i]), append(want, steps[i+1])
	}
	answers, err := post.Play(lines)
	checkList(t, strings.Join(lines, "|"), answers, err, want, api.OK)
}

// P10.7: the chapter's examples.
func TestExamples(t *testing.T) {
	checkPlay(t, "0 put a x", "x", "1 put a y", "y", "0 join 1", "2", "0 text a", "y")
	checkPlay(t, "0 put t 3,0,-3;1,-1", "3,0,-3;1,-1", "0 beat t", "6", "0 drift t 0 2", "3")
	checkPlay(t, "0 add a 100", "100", "0 add b 200", "200", "0 add c 300", "300", "0 share 200 a b c", "50 75 75")
}

// P10.7: posts 0 to 3, each with a book of its own, deeds, questions and joins.
func TestPlay(t *testing.T) {
	checkPlay(t,
		"3 join 0", "0", "2 join 2", "0", "0 text a", "error 5", "0 put a x", "x", "1 text a", "error 5", "3 stock a", "0", "1 add a 5", "5", "2 add a 6", "6", "3 add a 7", "7", "0 stock a", "0",
		"0 join 3", "2", "0 stock a", "7", "3 stock a", "7", "3 text a", "error 5", "3 join 2", "2", "0 join 3", "3", "0 stock a", "13", "0 drop a", "x", "0 drop a", "error 5", "1 join 0", "5", "1 join 0", "5", "1 join 1", "5", "1 stock a", "18", "0 add a -99", "-86", "1 stock a", "18")
}

// P10.7: the errors of deeds and questions are answers, whatever they are.
func TestErrorsOfLines(t *testing.T) {
	checkPlay(t, "0 put a x", "x", "0 drift b 0 1", "error 5", "0 drift a 0 1", "error 3", "0 put a 1", "1", "0 drift a 0 -1", "error 2", "0 far a a", "error 90", "0 share 1 a", "error 2", "0 add a -1", "-1", "0 share 1 a", "error 80", "0 share 1 a A", "error 100", "0 drop b", "error 5", "0 put a error 5", "error 5", "0 text a", "error 5", "1 join 0", "4")
	var steps []string
	for i := range 60 {
		steps = append(steps, "2 add a 1", strconv.Itoa(i+1))
	}
	checkPlay(t, append(steps, "2 add a 1", "error 4", "2 drop b", "error 4", "2 drop", "error 100", "2 stock a", "60", "0 join 2", "60", "0 add a 1", "61", "2 join 0", "61", "2 put a x", "error 4")...)
}

// P10.7: a deed in a script may have 60 bytes of its own, a question more.
func TestLongScriptLines(t *testing.T) {
	long := strings.Repeat("x", 54)
	checkPlay(t, "3 put a "+long, long, "3 put a "+long+"x", "error 100", "3 text a", long, "3 share 0"+strings.Repeat(" abcdefgh", 8), "0 0 0 0 0 0 0 0", "0 put a  ", " ", "0 text a", " ")
}

// badLines are lines of scripts that are none.
func badLines() []string {
	lines := []string{
		"", " ", "0", "3", "0 ", "x", "put a x", "text a", "join 0", "-1 put a x", "4 put a x", "-1 text a", "4 text a", "4 join 0", "-1 join 0", "00 put a x", "01 text a", "+0 put a x", "-0 put a x", "10 put a x", "a put a x", " put a x", " 0 put a x", "0  put a x", "0\tput a x", "0put a x", "0  text a", "99999999999999999999 text a",
		"0 join", "0 join ", "0 join 4", "0 join -1", "0 join 00", "0 join +1", "0 join -0", "0 join 1 ", "0 join  1", "0 join 1 2", "0 join a", "0 join 10", "0  join 1", "0 Join 1", "0 join\t1", "4 join 4", "0 0 join 1", "0 hear x", "0 new 1",
	}
	for _, bad := range slices.Concat(badDeeds(), badQuestions()) {
		if plainWords(bad) == nil {
			lines = append(lines, "0 "+bad, "3 "+bad)
		}
	}
	return lines
}

// P10.7: any other line is ErrCommand, and does nothing.
func TestBadLines(t *testing.T) {
	for _, line := range badLines() {
		checkPlay(t, "0 put a x", "x", line, "error 100", "0 text a", "x", "1 join 0", "1", "2 join 3", "0")
	}
}

// P10.7: scripts of 0, 1, 100 and more lines.
func TestScripts(t *testing.T) {
	for _, lines := range [][]string{nil, {}} {
		answers, err := post.Play(lines)
		checkList(t, "Play", answers, err, nil, api.OK)
	}
	checkPlay(t, "0 stock a", "0")
	for _, n := range []int{1, 2, 99, 100, 101, 102, 1000} {
		answers, err := post.Play(slices.Repeat([]string{"1 add a 1", "2 stock a"}, n)[:n])
		if n > api.MaxLines {
			checkList(t, "Play", answers, err, nil, api.ErrLimit)
			continue
		}
		check(t, "answers", len(answers), err, n, api.OK)
		check(t, "the last even answer", answers[(n-1)/2*2], api.OK, strconv.Itoa((n+1)/2), api.OK)
	}
	// Lines that are none count as well, and each script has new posts.
	answers, err := post.Play(make([]string, 100))
	checkList(t, "Play", answers, err, slices.Repeat([]string{"error 100"}, 100), api.OK)
	answers, err = post.Play(make([]string, 101))
	checkList(t, "Play", answers, err, nil, api.ErrLimit)
	for range 2 {
		checkPlay(t, "0 add a 1", "1", "1 join 0", "1")
	}
}

// drawnLine returns a line of a script.
func drawnLine(source *rand.Rand) string {
	number := pick(source, "0 ", "1 ", "2 ", "3 ")
	switch source.IntN(12) {
	case 0, 1, 2:
		return number + "join " + pick(source, "0", "1", "2", "3")
	case 3:
		return spoiled(source, number+drawnDeed(source))
	case 4:
		return spoiled(source, number+drawnQuestion(source))
	case 5, 6, 7:
		return number + drawnQuestion(source)
	}
	return number + drawnDeed(source)
}

// P10.7: scripts of all kinds, told line by line.
func TestDrawnScripts(t *testing.T) {
	answered := map[string]int{}
	for seed := range uint64(300) {
		source := rand.New(rand.NewPCG(10, 20000+seed))
		var lines []string
		for range source.IntN(101) {
			lines = append(lines, drawnLine(source))
		}
		answers, err := post.Play(lines)
		want := plainPlay(lines)
		checkList(t, "Play", answers, err, want, api.OK)
		for i, answer := range answers {
			if answer != want[i] {
				t.Fatalf("script %d, line %d, %q: %q, want %q", seed, i, lines[i], answer, want[i])
			}
			answered[answer]++
		}
	}
	for _, e := range []api.Errno{api.ErrArg, api.ErrForm, api.ErrNone, api.ErrClaims, api.ErrPrint, api.ErrCommand} {
		if answered["error "+strconv.Itoa(int(e))] < 20 {
			t.Errorf("error %d: %d times", e, answered["error "+strconv.Itoa(int(e))])
		}
	}
}
