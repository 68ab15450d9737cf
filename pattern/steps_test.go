package pattern

import "testing"

func parsed(t *testing.T, text string) Pattern {
	t.Helper()
	p, err := Parse(text)
	if err != nil {
		t.Fatal(err)
	}
	return p
}

func TestHas(t *testing.T) {
	p := parsed(t, "a é+ a / 5")
	for kind, want := range map[rune]bool{'a': true, 'é': true, 'e': false, 'A': false, '+': false, ' ': false, 0: false, -1: false} {
		if p.Has(kind) != want {
			t.Errorf("Has(%q) = %v", kind, !want)
		}
	}
	if (Pattern{}).Has(0) {
		t.Error("a pattern without steps has a kind")
	}
}

func TestLeads(t *testing.T) {
	p := parsed(t, "a b+ b / 5")
	type way struct {
		from, to int
		kind     rune
	}
	open := map[way]bool{
		{BeforeFirst, 0, 'a'}: true,
		{0, 1, 'b'}:           true,
		{1, 1, 'b'}:           true,
		{1, 2, 'b'}:           true,
	}
	for from := BeforeFirst; from < 3; from++ {
		for to := range 3 {
			for _, kind := range "abx" {
				w := way{from, to, kind}
				if p.Leads(from, to, kind) != open[w] {
					t.Errorf("Leads(%d, %d, %q) = %v", from, to, kind, !open[w])
				}
			}
		}
	}
}

func TestGoesOn(t *testing.T) {
	for _, c := range []struct {
		text string
		want []bool
	}{
		{"a / 5", []bool{false}},
		{"a+ / 5", []bool{true}},
		{"a b / 5", []bool{true, false}},
		{"a+ b+ / 5", []bool{true, true}},
		{"a b c d / 5", []bool{true, true, true, false}},
	} {
		p := parsed(t, c.text)
		for step, want := range c.want {
			if p.GoesOn(step) != want {
				t.Errorf("%q: GoesOn(%d) = %v", c.text, step, !want)
			}
			if last := step == len(c.want)-1; p.IsLast(step) != last {
				t.Errorf("%q: IsLast(%d) = %v", c.text, step, !last)
			}
		}
	}
}

func TestFits(t *testing.T) {
	for _, c := range []struct {
		text  string
		step  int
		least int
		more  bool
	}{
		{"a b c / 5", 0, 1, false},
		{"a b c / 5", 2, 3, false},
		{"a b+ c / 5", 0, 1, false},
		{"a b+ c / 5", 1, 2, true},
		{"a b+ c / 5", 2, 3, true},
		{"a+ b c / 5", 0, 1, true},
		{"a b c+ / 5", 1, 2, false},
		{"a+ b+ c+ d+ / 5", 3, 4, true},
	} {
		p := parsed(t, c.text)
		for events := range 10 {
			want := events == c.least || events > c.least && c.more
			if p.Fits(c.step, events) != want {
				t.Errorf("%q: Fits(%d, %d) = %v", c.text, c.step, events, !want)
			}
		}
	}
}
