package post_test

import (
	"slices"
	"strings"
	"testing"

	"skimmer/api"
	"skimmer/post"
)

// asked returns a post with texts and stocks of all kinds.
func asked(t *testing.T) *post.Post {
	t.Helper()
	return wrote(t, 2,
		"put t 3,0,-3;1,-1", "put u 1,2,1,2", "put abcdefgh 100", "put p abcd", "put q acbd", "put r "+strings.Repeat("a", 20), "put s "+strings.Repeat("a", 21), "put x a b", "put y  ", "put z 1,2;", "put dropped abc", "drop dropped",
		"add a 100", "add b 200", "add c 300", "add neg -1", "add most 1000", "add more 1001", "add t 5", "add zero 1", "add zero -1")
}

// P10.5: what is no question is none for any post.
func TestNoQuestions(t *testing.T) {
	for _, line := range slices.Concat(badQuestions(), badDeeds(), goodDeeds(), joins()) {
		for _, p := range append(allPosts(t), asked(t)) {
			before := p.Text()
			checkAsk(t, p, line, "", api.ErrCommand)
			check(t, "Text", p.Text(), api.OK, before, api.OK)
		}
	}
}

// P10.5: each question, with its answers and its errors.
func TestQuestions(t *testing.T) {
	p := asked(t)
	eight := strings.Repeat(" abcdefgh", 8)
	for _, x := range []struct {
		line, want string
		err        api.Errno
	}{
		{"text p", "abcd", api.OK}, {"text abcdefgh", "100", api.OK}, {"text x", "a b", api.OK}, {"text y", " ", api.OK}, {"text dropped", "", api.ErrNone}, {"text a", "", api.ErrNone}, {"text abcdefg", "", api.ErrNone},
		{"stock a", "100", api.OK}, {"stock neg", "-1", api.OK}, {"stock none", "0", api.OK}, {"stock zero", "0", api.OK}, {"stock t", "5", api.OK}, {"stock p", "0", api.OK},
		{"drift t 0 2", "3", api.OK}, {"drift t 0 0", "0", api.OK}, {"drift t -1 1", "-4", api.OK}, {"drift t 3 2", "3", api.OK}, {"drift u 0 9999", "14998", api.OK}, {"drift u 9999 1", "2", api.OK}, {"drift u -9999 1", "2", api.OK}, {"drift u -9998 3", "4", api.OK}, {"drift abcdefgh 7 9999", "999900", api.OK},
		{"drift t 0 -1", "", api.ErrArg}, {"drift t 0 -9999", "", api.ErrArg}, {"drift p 0 1", "", api.ErrForm}, {"drift z 0 1", "", api.ErrForm}, {"drift p 0 -1", "", api.ErrForm}, {"drift none 0 1", "", api.ErrNone}, {"drift none 0 -1", "", api.ErrNone}, {"drift dropped 0 1", "", api.ErrNone}, {"drift a 0 1", "", api.ErrNone},
		{"beat t", "6", api.OK}, {"beat u", "2", api.OK}, {"beat abcdefgh", "1", api.OK}, {"beat p", "", api.ErrForm}, {"beat y", "", api.ErrForm}, {"beat none", "", api.ErrNone}, {"beat dropped", "", api.ErrNone},
		{"far p q", "2", api.OK}, {"far q p", "2", api.OK}, {"far p p", "0", api.OK}, {"far p r", "19", api.OK}, {"far r r", "0", api.OK},
		{"far p s", "", api.ErrPrint}, {"far s p", "", api.ErrPrint}, {"far t t", "", api.ErrPrint}, {"far x p", "", api.ErrPrint}, {"far p none", "", api.ErrNone}, {"far none p", "", api.ErrNone}, {"far s none", "", api.ErrNone}, {"far none s", "", api.ErrNone}, {"far none none", "", api.ErrNone}, {"far p dropped", "", api.ErrNone}, {"far dropped p", "", api.ErrNone},
		{"share 200 a b c", "50 75 75", api.OK}, {"share 200 c b a", "75 75 50", api.OK}, {"share 100 a b c", "34 33 33", api.OK}, {"share 0 none", "0", api.OK}, {"share 1 none", "", api.ErrArg}, {"share 100 a", "100", api.OK}, {"share 0 p none", "0 0", api.OK}, {"share 1000 most", "1000", api.OK}, {"share 8000" + strings.Repeat(" most", 8), "1000 1000 1000 1000 1000 1000 1000 1000", api.OK}, {"share 0" + eight, "0 0 0 0 0 0 0 0", api.OK}, {"share 100 b b b", "34 33 33", api.OK}, {"share 3 zero t", "0 3", api.OK}, {"share 600 a b c", "100 200 300", api.OK},
		{"share 601 a b c", "", api.ErrArg}, {"share -1 a", "", api.ErrArg}, {"share 9999 most", "", api.ErrArg}, {"share -9999 a", "", api.ErrArg}, {"share 0 neg", "", api.ErrClaims}, {"share -1 neg", "", api.ErrClaims}, {"share 1 a neg", "", api.ErrClaims}, {"share 1 more", "", api.ErrClaims}, {"share 1" + strings.Repeat(" most", 7) + " more", "", api.ErrClaims}, {"share 9999 more a", "", api.ErrClaims},
	} {
		checkAsk(t, p, x.line, x.want, x.err)
	}
}

// P10.5: a question may be longer than a line.
func TestLongQuestions(t *testing.T) {
	p := made(t, 0)
	names := " aaaaaaaa bbbbbbbb cccccccc dddddddd eeeeeeee ffffffff gggggggg hhhhhhhh"
	for i, name := range strings.Fields(names) {
		write(t, p, "add "+name+" "+strings.Repeat("9", 1+i%3))
	}
	checkAsk(t, p, "share 1009"+names, "5 50 424 5 49 423 4 49", api.OK)
	checkAsk(t, p, "share 2323"+names, "", api.ErrArg)
	checkAsk(t, p, "share 0"+names, "0 0 0 0 0 0 0 0", api.OK)
	p = made(t, 1)
	for _, name := range strings.Fields(names) {
		write(t, p, "add "+name+" 1000")
	}
	checkAsk(t, p, "share 4000"+names, "500 500 500 500 500 500 500 500", api.OK)
	checkAsk(t, p, "share 1000"+names[:7*9], "143 143 143 143 143 143 142", api.OK)
	checkAsk(t, p, "share -999"+names, "", api.ErrArg)
}

// P10.5: what is asked changes with what is heard.
func TestAskBehindJoin(t *testing.T) {
	p, o := wrote(t, 0, "put t 1,2", "add a 10"), wrote(t, 1, "put t 5", "add a 20")
	checkAsk(t, p, "drift t 0 4", "6", api.OK)
	checkAsk(t, p, "share 10 a", "10", api.OK)
	join(t, p, o)
	checkAsk(t, p, "drift t 0 4", "20", api.OK)
	checkAsk(t, p, "beat t", "1", api.OK)
	checkAsk(t, p, "stock a", "30", api.OK)
	checkAsk(t, p, "share 30 a", "30", api.OK)
	checkAsk(t, o, "stock a", "20", api.OK)
	write(t, p, "drop t")
	checkAsk(t, p, "beat t", "", api.ErrNone)
	checkAsk(t, o, "beat t", "1", api.OK)
}
