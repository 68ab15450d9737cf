package spotter_test

import (
	"math/rand"
	"regexp"
	"strings"
	"testing"
	"unicode"
	"unicode/utf8"

	"spotter/api"
	"spotter/spotter"
)

// patternForm is the document's 'A PATTERN' once more, so that the parser is held against something that shares no code with it.
var patternForm = regexp.MustCompile(`^ *(\p{L}\+?(?: +\p{L}\+?){0,3}) */ *(0|[1-9][0-9]{0,3}) *$`)

func expected(text string) (string, api.Errno) {
	if len(text) > 60 {
		return "", api.ErrLong
	}
	parts := patternForm.FindStringSubmatch(text)
	if parts == nil {
		return "", api.ErrPattern
	}
	return strings.Join(strings.Fields(parts[1]), " ") + " / " + parts[2], api.OK
}

func checkParse(t *testing.T, text, want string, errno api.Errno) {
	t.Helper()
	if got, e := spotter.Parse(text); got != want || e != errno {
		t.Errorf("Parse(%q) = %q, %d; want %q, %d", text, got, e, want, errno)
	}
}

func checkAsExpected(t *testing.T, text string) {
	t.Helper()
	want, errno := expected(text)
	checkParse(t, text, want, errno)
}

func TestP3Patterns(t *testing.T) {
	for _, c := range []struct{ text, want string }{
		// one step, four steps
		{"a / 5", "a / 5"},
		{"a+ / 5", "a+ / 5"},
		{"a b c d / 5", "a b c d / 5"},
		{"a+ b+ c+ d+ / 5", "a+ b+ c+ d+ / 5"},
		// the same letter again
		{"a a+ a a / 5", "a a+ a a / 5"},
		{"a A / 5", "a A / 5"},
		// windows
		{"a / 0", "a / 0"},
		{"a / 9", "a / 9"},
		{"a / 10", "a / 10"},
		{"a / 999", "a / 999"},
		{"a / 1000", "a / 1000"},
		{"a / 9999", "a / 9999"},
		// spaces
		{"a/5", "a / 5"},
		{"a /5", "a / 5"},
		{"a/ 5", "a / 5"},
		{"a+/5", "a+ / 5"},
		{"   a   b+   /   5   ", "a b+ / 5"},
		// letters beyond ASCII, of two to four bytes, and one that is neither upper nor lower case
		{"é Я+/1", "é Я+ / 1"},
		{"語/1", "語 / 1"},
		{"𝒳+ 𐐷/1", "𝒳+ 𐐷 / 1"},
		{"ª ǅ/1", "ª ǅ / 1"},
	} {
		checkParse(t, c.text, c.want, api.OK)
	}
}

func TestP3NoPatterns(t *testing.T) {
	for _, text := range []string{
		// something is missing
		"", " ", "/", "a", "a+", "a b", "/5", " / 5", "a/", "a / ", "5", "a 5",
		// steps
		"a b c d e / 5", "a b c d e+ / 5", "ab / 5", "a+b / 5", "a++ / 5", "a + / 5", "+ / 5", "+a / 5", "a +b / 5", "1 / 5", "_ / 5", "a, b / 5", "a-b / 5",
		// windows
		"a / 00", "a / 01", "a / 0010", "a / 10000", "a / 99999", "a / 18446744073709551621", "a / +5", "a / -5", "a / 5+", "a / 1 0", "a / 0 0", "a / 5a", "a / b", "a / 0x5", "a / 1_0", "a / 5.0", "a / ٣", "a / ５",
		// the slash
		"a // 5", "a / / 5", "a / 5 /", "a / 5 / 5", "a / b / 5", "a ∕ 5",
		// white space that is no space
		"a\tb / 5", "a\n/ 5", "a / 5\n", "a\r/ 5", "\u00a0a / 5", "a\u2003b / 5", "a / 5\x00", "\ufeffa / 5",
		// marks and signs that are no letters
		"a\u0301 / 5", "\u0301 / 5", "٣ / 5", "½ / 5", "Ⅷ / 5", "😀 / 5", "\ufffd / 5",
		// no UTF-8: a lone byte, a cut rune, a byte too many, a half of a pair, an overlong form, beyond the last rune
		"\xff / 5", "a\xff / 5", "a \xff/ 5", "a / \xff", "a / 5\xff", "\xc3 / 5", "é\xa9 / 5", "\xed\xa0\x80 / 5", "\xc1\xa1 / 5", "\xf4\x90\x80\x80 / 5",
	} {
		checkParse(t, text, "", api.ErrPattern)
	}
}

func TestP3Length(t *testing.T) {
	spaces := func(n int) string { return strings.Repeat(" ", n) }
	checkParse(t, "a"+spaces(57)+"/5", "a / 5", api.OK)
	checkParse(t, "a"+spaces(58)+"/5", "", api.ErrLong)
	checkParse(t, spaces(57)+"a/5", "a / 5", api.OK)
	checkParse(t, "a/5"+spaces(57), "a / 5", api.OK)
	checkParse(t, "a/5"+spaces(58), "", api.ErrLong)
	// Bytes count, not runes.
	checkParse(t, "語"+spaces(55)+"/5", "語 / 5", api.OK)
	checkParse(t, "語"+spaces(56)+"/5", "", api.ErrLong)
	checkParse(t, spaces(60), "", api.ErrPattern)
	checkParse(t, strings.Repeat("\xff", 60), "", api.ErrPattern)
}

func TestP3EveryRuneAsKind(t *testing.T) {
	for r := rune(0); r <= utf8.MaxRune; r++ {
		want, errno := "", api.ErrPattern
		if unicode.IsLetter(r) {
			want, errno = string(r)+" / 5", api.OK
		}
		checkParse(t, string(r)+"/5", want, errno)
	}
}

func TestP3EveryWindow(t *testing.T) {
	digits := []string{"", "0", "1", "2", "3", "4", "5", "6", "7", "8", "9"}
	for _, a := range digits {
		for _, b := range digits {
			for _, c := range digits {
				for _, d := range digits {
					checkAsExpected(t, "a/"+a+b+c+d)
					checkAsExpected(t, "a/1"+a+b+c+d)
				}
			}
		}
	}
}

func TestP3EveryShortText(t *testing.T) {
	pieces := []string{"a", "é", "+", " ", "/", "0", "7", "\xff"}
	texts := []string{""}
	for range 6 {
		var longer []string
		for _, text := range texts {
			for _, piece := range pieces {
				longer = append(longer, text+piece)
			}
		}
		for _, text := range longer {
			checkAsExpected(t, text)
		}
		texts = longer
	}
}

func TestP3ChangedPatterns(t *testing.T) {
	random := rand.New(rand.NewSource(1))
	pieces := []string{"a", "Я", "語", "+", " ", "  ", "/", "0", "12", "\xe8", "\t", strings.Repeat(" ", 30)}
	seeds := []string{"a b+ c d+ / 10", "  é+ a/9999 ", "語 語 語/0", "a" + strings.Repeat(" ", 55) + "/ 12"}
	for range 100000 {
		text := seeds[random.Intn(len(seeds))]
		for range 1 + random.Intn(3) {
			from := random.Intn(len(text) + 1)
			to := min(from+random.Intn(3), len(text))
			text = text[:from] + pieces[random.Intn(len(pieces))] + text[to:]
		}
		checkAsExpected(t, text)
	}
}

func TestP3CanonicalStays(t *testing.T) {
	for _, text := range []string{"a/0", " a+ b/10 ", "é  Я+  語  𝒳+/9999"} {
		canonical, _ := spotter.Parse(text)
		checkParse(t, canonical, canonical, api.OK)
	}
}
