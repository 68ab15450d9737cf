package spotter_test

import (
	"math"
	"strings"
	"sync"
	"testing"
	"unsafe"

	"spotter/api"
	"spotter/spotter"
)

func oddTexts() []string {
	texts := []string{"", "a", "/", "+", "a/", "a /5/", "a b+ / 10", "a b c d e / 1", "\x00", "\xff", "\xed\xa0\x80", "\xf4\x90\x80\x80", "é / 5",
		strings.Repeat("a", 60), strings.Repeat("a", 61), strings.Repeat("\xff", 61), strings.Repeat("+", 1<<16), strings.Repeat("a ", 1<<20), strings.Repeat("9", 1<<20)}
	for b := range 256 {
		texts = append(texts, string([]byte{byte(b)}), "a / 5"+string([]byte{byte(b)}))
	}
	return texts
}

func TestP1ParseGivesNothingBesideAnError(t *testing.T) {
	for _, text := range oddTexts() {
		got, errno := spotter.Parse(text)
		if errno != api.OK && got != "" {
			t.Errorf("Parse(%q) = %q beside error %d", text, got, errno)
		}
		if errno == api.OK && got == "" {
			t.Errorf("Parse(%q) gives neither a pattern nor an error", text)
		}
	}
}

func TestP1TooLongGoesBeforeNoPattern(t *testing.T) {
	for _, text := range []string{strings.Repeat(" ", 61), strings.Repeat("a", 61), strings.Repeat("\xff", 61), "a / 5 / " + strings.Repeat("5", 53), strings.Repeat("語", 21)} {
		checkParse(t, text, "", api.ErrLong)
	}
}

func TestP1NoCallPanicsOrGivesMoreThanItsError(t *testing.T) {
	moments := []int64{math.MinInt64, math.MinInt64 + 1, -1, 0, 1, math.MaxInt64 - 1, math.MaxInt64}
	var frames [][]byte
	var events []api.Event
	for _, m := range moments {
		events = append(events, api.Event{Kind: 'a', Time: m}, api.Event{Kind: -1, Time: m}, api.Event{Kind: math.MaxInt32, Time: -m})
	}
	for _, text := range oddTexts() {
		frames = append(frames, []byte(text))
		useEngine(t, text, events)
		for _, stop := range []int{math.MinInt, 0, 1, math.MaxInt} {
			if matches, errno := spotter.Watch(text, events, math.MaxInt64, stop); errno != api.OK && len(matches) != 0 {
				t.Errorf("Watch(%q) = %v beside error %d", text, matches, errno)
			}
		}
		spotter.Watch(text, nil, 0, 1)
	}
	frames = append(frames, nil)
	for i, from := range frames {
		useFrames(t, from, frames[len(frames)-1-i])
	}
	checkResolve(t, "no list", nil, nil, -1)
	checkResolve(t, "odd bytes", frames, nil, -1)
}

func useEngine(t *testing.T, text string, events []api.Event) {
	t.Helper()
	e, errno := spotter.New(text)
	if (e == nil) != (errno != api.OK) {
		t.Errorf("New(%q) = %v, %d", text, e, errno)
	}
	if e == nil {
		return
	}
	for _, ev := range events {
		if offset, errno := e.Feed(ev); errno != api.OK && offset != 0 {
			t.Errorf("Feed(%v) = %d beside error %d", ev, offset, errno)
		}
		if matches, errno := e.Advance(ev.Time); errno != api.OK && len(matches) != 0 {
			t.Errorf("Advance(%d) = %v beside error %d", ev.Time, matches, errno)
		}
	}
	if len(e.Save()) == 0 {
		t.Errorf("%q: Save gives nothing", text)
	}
}

func useFrames(t *testing.T, from, other []byte) {
	t.Helper()
	if e, errno := spotter.Load(from); e != nil || errno != api.ErrBytes {
		t.Errorf("Load(%q) = %v, %d", from, e, errno)
	}
	state := stateOf("abc")
	for _, pair := range [][2][]byte{{from, other}, {from, state}, {state, from}} {
		checkNoDelta(t, pair[0], pair[1])
		checkApply(t, pair[0], pair[1], nil, api.ErrBytes)
	}
	if to, errno := spotter.Apply(state, sealed(append([]byte("D"), from...))); to != nil || errno == api.OK {
		t.Errorf("Apply of a delta of %q = %q, %d", from, to, errno)
	}
}

func TestP2ParseHangsOnItsTextAlone(t *testing.T) {
	check := func() {
		checkParse(t, " a b+/10", "a b+ / 10", api.OK)
		checkParse(t, "a b c d e/1", "", api.ErrPattern)
		checkParse(t, "c/0", "c / 0", api.OK)
		checkParse(t, strings.Repeat("a", 61), "", api.ErrLong)
		checkParse(t, "a / 10000", "", api.ErrPattern)
	}
	for range 3 {
		check()
	}
	var group sync.WaitGroup
	for range 8 {
		group.Go(func() {
			for range 100 {
				check()
			}
		})
	}
	group.Wait()
}

// A string made of bytes that are written over afterwards shows whether an answer still leans on its text.
func TestP2ParseKeepsNothingOfItsText(t *testing.T) {
	for _, c := range []struct{ text, want string }{
		{"a b+ / 10", "a b+ / 10"}, {"  a b+ / 10  ", "a b+ / 10"}, {"é+/9999", "é+ / 9999"},
	} {
		text := []byte(c.text)
		got, _ := spotter.Parse(unsafe.String(&text[0], len(text)))
		if string(text) != c.text {
			t.Errorf("Parse wrote into its text %q: %q", c.text, text)
		}
		for i := range text {
			text[i] = 'x'
		}
		if got != c.want {
			t.Errorf("Parse(%q) turned into %q when its text was written over", c.text, got)
		}
	}
}

func TestP2NewKeepsNothingOfItsText(t *testing.T) {
	text := []byte("  a b+ / 10 ")
	e := newEngine(t, unsafe.String(&text[0], len(text)))
	if string(text) != "  a b+ / 10 " {
		t.Errorf("New wrote into its text: %q", text)
	}
	for i := range text {
		text[i] = 'x'
	}
	feedAll(t, e, "a1 x2 b3")
	checkAdvance(t, e, 9, "0 2@3", api.OK)
}
