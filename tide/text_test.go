package tide_test

import (
	"regexp"
	"strings"
	"testing"

	"skimmer/api"
	"skimmer/tide"
)

// P1.6: the text of a tide, and the tide of a text.
func TestTexts(t *testing.T) {
	long := strings.Repeat("-100,", 11) + "-100"
	for text, want := range map[string][][]int{
		"0":                      {{0}},
		"-1":                     {{-1}},
		"100;-100":               {{100}, {-100}},
		example:                  {{3, 0, -3}, {1, -1}},
		"1;2;3;4":                {{1}, {2}, {3}, {4}},
		"10,20;30":               {{10, 20}, {30}},
		long + ";1;2;" + "0,0,0": {{-100, -100, -100, -100, -100, -100, -100, -100, -100, -100, -100, -100}, {1}, {2}, {0, 0, 0}},
	} {
		x, err := tide.Parse(text)
		check(t, "Parse of "+text, x, err, want, api.OK)
		got, err := tide.Format(want)
		check(t, "Format", got, err, text, api.OK)
	}
}

// P1.6: texts that are nearly the text of a tide.
func TestBadTexts(t *testing.T) {
	for _, text := range []string{
		"", " ", ";", ",", ",;,", "1,", ",1", "1;", ";1", "1;;2", "1,,2", "1,;2", "1;,2",
		"01", "00", "-0", "-01", "+1", "+0", "--1", "-", "1-", "- 1", "1 ", " 1", "1, 2", "1;\n2", "1\n", "\t1",
		"a", "1a", "0x1", "1e1", "1.0", "1_0", "٣", "1\x00", "1:2", "1.2;3", "−1",
		"101", "-101", "1,101", "1;-101", "1000", "99999999999999999999", "-99999999999999999999", "9223372036854775808",
		"1;2;3;4;5", "1;2;3;4;", ";1;2;3;4", "0,0,0,0,0,0,0,0,0,0,0,0,0", "0,0,0,0,0,0,0,0,0,0,0,0,", "1;0,0,0,0,0,0,0,0,0,0,0,0,0",
		strings.Repeat("1;", 100000) + "1", strings.Repeat("1,", 100000) + "1", strings.Repeat("1", 100000), strings.Repeat(";", 100000),
	} {
		x, err := tide.Parse(text)
		if err != api.ErrForm || x != nil {
			t.Errorf("Parse(%.40q): %v, error %d", text, x, err)
		}
	}
}

// P1.6, P1.11: of all short texts, those of tides are read, and no others; each is the text of what is read.
func TestAllShortTexts(t *testing.T) {
	speed := `(0|-?[1-9][0-9]?|-?100)`
	wave := speed + `(,` + speed + `)*`
	form := regexp.MustCompile(`^` + wave + `(;` + wave + `){0,3}$`)
	var try func(text string, left int)
	try = func(text string, left int) {
		x, err := tide.Parse(text)
		if (err == api.OK) != form.MatchString(text) {
			t.Errorf("Parse(%q): error %d", text, err)
		}
		if err == api.OK {
			got, err := tide.Format(x)
			check(t, "Format of Parse", got, err, text, api.OK)
		}
		if left > 0 {
			for _, c := range "01-+,; 2" {
				try(text+string(c), left-1)
			}
		}
	}
	try("", 5)
	try("1;0,-1;", 3)
	try("1;2;0;", 3)
}

// P1.11: Parse of Format gives the tide.
func TestParseOfFormat(t *testing.T) {
	for _, x := range tides(t) {
		text, err := tide.Format(x)
		right(t, text, err)
		again, err := tide.Parse(text)
		check(t, "Parse of "+text, again, err, x, api.OK)
	}
}

// R4: two tides of one text share no memory.
func TestParseMemory(t *testing.T) {
	x, y := read(t, example), read(t, example)
	x[0][0] = 9
	if y[0][0] != 3 {
		t.Errorf("tides of one text share memory")
	}
}
