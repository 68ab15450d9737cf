package pattern

import (
	"errors"
	"slices"
	"strings"
	"testing"
)

func TestParseGathersStepsAndWindow(t *testing.T) {
	for _, c := range []struct {
		text   string
		steps  []Step
		window int64
	}{
		{"a / 5", []Step{{'a', false}}, 5},
		{"a+/0", []Step{{'a', true}}, 0},
		{" a  b+ a / 9999 ", []Step{{'a', false}, {'b', true}, {'a', false}}, 9999},
		{"é+ Я 語 a+/10", []Step{{'é', true}, {'Я', false}, {'語', false}, {'a', true}}, 10},
	} {
		p, err := Parse(c.text)
		if err != nil || !slices.Equal(p.Steps, c.steps) || p.Window != c.window {
			t.Errorf("Parse(%q) = %v, %v; want %v / %d", c.text, p, err, c.steps, c.window)
		}
	}
}

func TestStringIsCanonical(t *testing.T) {
	p := Pattern{Steps: []Step{{'a', false}, {'Я', true}, {'a', false}}, Window: 120}
	if got := p.String(); got != "a Я+ a / 120" {
		t.Errorf("String() = %q", got)
	}
}

func TestLongErrorTellsTheBytes(t *testing.T) {
	_, err := Parse(strings.Repeat("é", 31))
	var long LongError
	if !errors.As(err, &long) || long.Bytes != 62 || !strings.Contains(err.Error(), "62") {
		t.Errorf("62 bytes: %v", err)
	}
}

func TestSyntaxErrorTellsThePlace(t *testing.T) {
	for _, c := range []struct {
		text string
		at   int
	}{
		{"", 0}, {"/ 5", 0}, {"a", 1}, {"a /", 3}, {"ab / 5", 1}, {"é é é é é/1", 12}, {"a / 05", 5}, {"a / 10000", 8}, {"語\xff/5", 3},
	} {
		p, err := Parse(c.text)
		var fault SyntaxError
		if !errors.As(err, &fault) || fault.At != c.at || err.Error() == "" {
			t.Errorf("Parse(%q): %v, want a fault at byte %d", c.text, err, c.at)
		}
		if p.Steps != nil || p.Window != 0 {
			t.Errorf("Parse(%q) gives %v beside its error", c.text, p)
		}
	}
}
