package spotter_test

import (
	"fmt"
	"math"
	"strings"
	"testing"

	"spotter/api"
	"spotter/spotter"
)

func newEngine(t *testing.T, text string) *spotter.Engine {
	t.Helper()
	e, errno := spotter.New(text)
	if e == nil || errno != api.OK {
		t.Fatalf("New(%q) = %v, %d", text, e, errno)
	}
	return e
}

// eventsOf reads events as "a1 b-2": kind and moment.
func eventsOf(text string) []api.Event {
	var out []api.Event
	for _, field := range strings.Fields(text) {
		var ev api.Event
		if _, err := fmt.Sscanf(field, "%c%d", &ev.Kind, &ev.Time); err != nil {
			panic(field)
		}
		out = append(out, ev)
	}
	return out
}

// told writes matches as "0 1@5, 0 2@6": offsets and end.
func told(matches []api.Match) string {
	var out []string
	for _, m := range matches {
		out = append(out, strings.Trim(fmt.Sprint(m.Offsets), "[]")+"@"+fmt.Sprint(m.End))
	}
	return strings.Join(out, ", ")
}

func feedAll(t *testing.T, e *spotter.Engine, text string) {
	t.Helper()
	for _, ev := range eventsOf(text) {
		if _, errno := e.Feed(ev); errno != api.OK {
			t.Fatalf("Feed(%c%d): error %d", ev.Kind, ev.Time, errno)
		}
	}
}

func checkFeed(t *testing.T, e *spotter.Engine, text string, want int, errno api.Errno) {
	t.Helper()
	if got, n := e.Feed(eventsOf(text)[0]); got != want || n != errno {
		t.Errorf("Feed(%s) = %d, %d; want %d, %d", text, got, n, want, errno)
	}
}

func checkAdvance(t *testing.T, e *spotter.Engine, w int64, want string, errno api.Errno) {
	t.Helper()
	matches, n := e.Advance(w)
	if told(matches) != want || n != errno {
		t.Errorf("Advance(%d) = %q, %d; want %q, %d", w, told(matches), n, want, errno)
	}
	if n != api.OK && matches != nil {
		t.Errorf("Advance(%d) = %v beside error %d", w, matches, n)
	}
}

// checkMatches advances once over all events, and, with the same events, moment by moment.
func checkMatches(t *testing.T, text, fed, want string) {
	t.Helper()
	e, slow := newEngine(t, text), newEngine(t, text)
	feedAll(t, e, fed)
	feedAll(t, slow, fed)
	matches, errno := e.Advance(30)
	if told(matches) != want || errno != api.OK {
		t.Errorf("%q, fed %q: %q, %d; want %q", text, fed, told(matches), errno, want)
	}
	var all []api.Match
	for w := range int64(31) {
		some, errno := slow.Advance(w)
		if errno != api.OK {
			t.Errorf("%q, fed %q: Advance(%d): error %d", text, fed, w, errno)
		}
		all = append(all, some...)
	}
	if told(all) != want {
		t.Errorf("%q, fed %q: moment by moment %q; want %q", text, fed, told(all), want)
	}
}

func TestP4ErrorsOfParse(t *testing.T) {
	texts := append(oddTexts(), "a b c d e / 5", "a / 10000", "a / 05", "a+ + / 5", "a"+strings.Repeat(" ", 58)+"/5")
	for _, text := range texts {
		_, want := spotter.Parse(text)
		e, errno := spotter.New(text)
		if errno != want || (e != nil) != (want == api.OK) {
			t.Errorf("New(%q) = %v, %d; Parse gives error %d", text, e, errno, want)
		}
	}
}

func TestP4NewEngine(t *testing.T) {
	for _, text := range []string{"a / 5", "  a/5 ", "é+   b/0", "a b c d / 9999", "a" + strings.Repeat(" ", 57) + "/5"} {
		least := int64(math.MinInt64)
		e := newEngine(t, text)
		// No event waits, and the watermark is the least moment: an Advance to it is none back, and the moment above it is not late.
		checkAdvance(t, e, least, "", api.OK)
		if n, errno := e.Feed(api.Event{Kind: 'x', Time: least}); n != 0 || errno != api.ErrLate {
			t.Errorf("%q: Feed at the least moment = %d, %d", text, n, errno)
		}
		if n, errno := e.Feed(api.Event{Kind: 'x', Time: least + 1}); n != 0 || errno != api.OK {
			t.Errorf("%q: Feed above the least moment = %d, %d", text, n, errno)
		}
		checkAdvance(t, e, math.MaxInt64, "", api.OK)
	}
}

func TestP5Offsets(t *testing.T) {
	e := newEngine(t, "a b / 5")
	for i, text := range []string{"a5", "x1", "b9", "a5", "é-7", "b6", "A6"} {
		checkFeed(t, e, text, i, api.OK)
	}
	checkAdvance(t, e, 9, "0 5@6, 3 5@6, 0 2@9, 3 2@9", api.OK)
	checkFeed(t, e, "b10", 7, api.OK)
	checkFeed(t, e, "x9", 0, api.ErrLate)
	checkFeed(t, e, "x10", 8, api.OK)
}

// A kind is a rune: no number of one that the pattern has not, and none beyond all runes, is taken for it.
func TestP5OtherKindsOnlyHaveOffsets(t *testing.T) {
	e := newEngine(t, "a é+ / 5")
	n := 0
	for _, kind := range []rune{0, -1, 'A', 'b', '+', '/', ' ', '5', 'e', 0xC3, 0xA9, 0xFFFD, 0xD800, math.MaxInt32, math.MinInt32, 'a' + 1<<8, 'a' + 1<<16} {
		for range 13 {
			if got, errno := e.Feed(api.Event{Kind: kind, Time: 1}); got != n || errno != api.OK {
				t.Fatalf("Feed of kind %d = %d, %d; want %d", kind, got, errno, n)
			}
			n++
		}
	}
	checkFeed(t, e, "a1", n, api.OK)
	checkFeed(t, e, "é1", n+1, api.OK)
	checkAdvance(t, e, 1, fmt.Sprintf("%d %d@1", n, n+1), api.OK)
}

func TestP5Late(t *testing.T) {
	for _, w := range []int64{math.MinInt64 + 1, -1, 0, 1, 5, math.MaxInt64 - 1} {
		e := newEngine(t, "a / 5")
		checkAdvance(t, e, w, "", api.OK)
		for _, kind := range []rune{'a', 'x'} {
			for _, moment := range []int64{w, w - 1, math.MinInt64} {
				if n, errno := e.Feed(api.Event{Kind: kind, Time: moment}); n != 0 || errno != api.ErrLate {
					t.Errorf("watermark %d: Feed at %d = %d, %d", w, moment, n, errno)
				}
			}
		}
		for i, kind := range []rune{'a', 'x'} {
			if n, errno := e.Feed(api.Event{Kind: kind, Time: w + 1}); n != i || errno != api.OK {
				t.Errorf("watermark %d: Feed just above = %d, %d", w, n, errno)
			}
		}
	}
	e := newEngine(t, "a / 5")
	checkAdvance(t, e, math.MaxInt64, "", api.OK)
	if n, errno := e.Feed(api.Event{Kind: 'a', Time: math.MaxInt64}); n != 0 || errno != api.ErrLate {
		t.Errorf("Feed behind the last moment = %d, %d", n, errno)
	}
}

// A moment that only waits is no watermark.
func TestP5EventsBeforeWaitingOnesAreNotLate(t *testing.T) {
	e := newEngine(t, "a b / 9")
	checkFeed(t, e, "a100", 0, api.OK)
	checkFeed(t, e, "b-100", 1, api.OK)
	checkAdvance(t, e, 0, "", api.OK)
	checkFeed(t, e, "b1", 2, api.OK)
	checkFeed(t, e, "b101", 3, api.OK)
	checkAdvance(t, e, 200, "0 3@101", api.OK)
}

func TestP5Full(t *testing.T) {
	e := newEngine(t, "a b / 3")
	checkAdvance(t, e, 0, "", api.OK)
	feedAll(t, e, "a12 b11 a10 a9 a8 a7 a6 a5 a4 a3 b2")
	checkFeed(t, e, "x1", 11, api.OK)
	checkFeed(t, e, "a1", 12, api.OK)
	for range 2 {
		checkFeed(t, e, "a20", 0, api.ErrFull)
		checkFeed(t, e, "b20", 0, api.ErrFull)
		// Late goes before full.
		checkFeed(t, e, "a0", 0, api.ErrLate)
		checkFeed(t, e, "x0", 0, api.ErrLate)
	}
	checkFeed(t, e, "x20", 13, api.OK)
	checkAdvance(t, e, 1, "", api.OK)
	checkFeed(t, e, "b20", 14, api.OK)
	checkFeed(t, e, "b20", 0, api.ErrFull)
	checkAdvance(t, e, 30, "12 10@2, 2 1@11, 3 1@11, 4 1@11", api.OK)
	// Processed ones wait no more.
	for i := range 12 {
		checkFeed(t, e, "a40", 15+i, api.OK)
	}
	checkFeed(t, e, "a40", 0, api.ErrFull)
}

func TestP6Examples(t *testing.T) {
	for _, c := range []struct{ fed, want string }{
		{"a1 b2 b3", "0 1@2, 0 1 2@3, 0 2@3"},
		{"b2 a1", "1 0@2"},
		{"a1 b11 b12", "0 1@11"},
		{"a1 a1 b1", "0 2@1, 1 2@1"},
	} {
		checkMatches(t, "a b+ / 10", c.fed, c.want)
	}
}

func TestP6Matches(t *testing.T) {
	for _, c := range []struct{ text, fed, want string }{
		// without '+': one to four steps
		{"a / 5", "", ""},
		{"a / 5", "b1 x2", ""},
		{"a / 5", "a1 b2 a9 a9", "0@1, 2@9, 3@9"},
		{"a b / 5", "a1", ""},
		{"a b / 5", "b1 a2", ""},
		{"a b / 5", "a1 a2 b3 b4", "0 2@3, 1 2@3, 0 3@4, 1 3@4"},
		{"a b c / 9", "a1 c2 b3 c4 b5 c6", "0 2 3@4, 0 2 5@6, 0 4 5@6"},
		{"a b c d / 9", "a1 b2 c3 d4 c5 d6", "0 1 2 3@4, 0 1 2 5@6, 0 1 4 5@6"},
		{"a b c d / 9", "d1 c2 b3 a4", ""},
		// with '+'
		{"a+ / 5", "a1 a2 a3", "0@1, 0 1@2, 1@2, 0 1 2@3, 0 2@3, 1 2@3, 2@3"},
		{"a+ b / 5", "a1 a2 b3 b4", "0 1 2@3, 0 2@3, 1 2@3, 0 1 3@4, 0 3@4, 1 3@4"},
		{"a+ b / 5", "a1 b2 a3 b4", "0 1@2, 0 2 3@4, 0 3@4, 2 3@4"},
		{"a b+ c / 9", "a1 b2 b3 c4 b5 c6", "0 1 2 3@4, 0 1 3@4, 0 2 3@4, 0 1 2 4 5@6, 0 1 2 5@6, 0 1 4 5@6, 0 1 5@6, 0 2 4 5@6, 0 2 5@6, 0 4 5@6"},
		{"a+ b+ / 9", "a1 b2 a3 b4", "0 1@2, 0 1 3@4, 0 2 3@4, 0 3@4, 2 3@4"},
		// one letter at several steps: a list that can be dealt out in several ways is one match
		{"a a / 5", "a1 a2 a3", "0 1@2, 0 2@3, 1 2@3"},
		{"a a a / 5", "a1 a2 a3 a4", "0 1 2@3, 0 1 3@4, 0 2 3@4, 1 2 3@4"},
		{"a a a a / 5", "a1 a2 a3 a4", "0 1 2 3@4"},
		{"a+ a / 5", "a1 a2 a3", "0 1@2, 0 1 2@3, 0 2@3, 1 2@3"},
		{"a a+ / 5", "a1 a2 a3", "0 1@2, 0 1 2@3, 0 2@3, 1 2@3"},
		{"a+ a+ / 5", "a1 a2 a3", "0 1@2, 0 1 2@3, 0 2@3, 1 2@3"},
		{"a+ a+ a+ / 9", "a1 a2 a3", "0 1 2@3"},
		{"a+ a+ b / 9", "a1 a2 a3 b4", "0 1 2 3@4, 0 1 3@4, 0 2 3@4, 1 2 3@4"},
		{"a+ b a+ / 9", "a1 a2 b3 a4", "0 1 2 3@4, 0 2 3@4, 1 2 3@4"},
		{"a+ b a+ / 9", "a1 b2 a3 a4", "0 1 2@3, 0 1 2 3@4, 0 1 3@4"},
		{"a b a b / 9", "a1 b2 a3 b4 b5", "0 1 2 3@4, 0 1 2 4@5"},
		// letters that look alike are not
		{"a A / 9", "a1 a2 A3", "0 2@3, 1 2@3"},
		{"é Я+ / 9", "é1 Я2 я3 Я4", "0 1@2, 0 1 3@4, 0 3@4"},
		// events of one moment go by their offsets
		{"a b / 9", "b1 a1 b1", "1 2@1"},
		{"a b / 0", "a1 b1 a2 b2", "0 1@1, 2 3@2"},
		{"a+ / 0", "a1 a1 a2", "0@1, 0 1@1, 1@1, 2@2"},
		// events that come in another order than that of their moments: lists go by processing, and are compared offset by offset
		{"a b / 9", "b3 b2 a1", "2 1@2, 2 0@3"},
		{"a b c / 9", "c4 b3 b2 a1", "3 1 0@4, 3 2 0@4"},
		{"a b / 9", "a2 b3 a1", "0 1@3, 2 1@3"},
		{"a b+ / 9", "a1 b4 b3 b2", "0 3@2, 0 2@3, 0 3 2@3, 0 1@4, 0 2 1@4, 0 3 1@4, 0 3 2 1@4"},
		{"a+ / 9", "a3 a2 a1", "2@1, 1@2, 2 1@2, 0@3, 1 0@3, 2 0@3, 2 1 0@3"},
		// the window: just as far, and one further
		{"a b / 3", "a1 b4", "0 1@4"},
		{"a b / 3", "a1 b5", ""},
		{"a b c / 3", "a1 b3 c4 c5", "0 1 2@4"},
		{"a b c / 3", "a1 a2 b4 c5", "1 2 3@5"},
		{"a+ b / 3", "a1 a3 a4 b5", "1 2 3@5, 1 3@5, 2 3@5"},
		{"a b+ / 2", "a1 b2 b3 b4", "0 1@2, 0 1 2@3, 0 2@3"},
		{"a b / 0", "a1 b2", ""},
		{"a b / 1", "a1 b2 b3", "0 1@2"},
		{"a b / 9999", "a1 x2 b29", "0 2@29"},
	} {
		checkMatches(t, c.text, c.fed, c.want)
	}
}

// More than one digit shows whether lists are compared as numbers or as texts.
func TestP6OffsetsAreComparedAsNumbers(t *testing.T) {
	e := newEngine(t, "a b / 9")
	for range 9 {
		checkOK(t, e, 'x', 1)
	}
	feedAll(t, e, "a1 a1 a1 b2")
	checkAdvance(t, e, 9, "9 12@2, 10 12@2, 11 12@2", api.OK)
}

func checkOK(t *testing.T, e *spotter.Engine, kind rune, moment int64) {
	t.Helper()
	if _, errno := e.Feed(api.Event{Kind: kind, Time: moment}); errno != api.OK {
		t.Fatalf("Feed(%c%d): error %d", kind, moment, errno)
	}
}

func TestP6Late(t *testing.T) {
	for _, w := range []int64{math.MinInt64 + 1, -1, 0, 5, math.MaxInt64} {
		e := newEngine(t, "a / 5")
		checkOK(t, e, 'a', w)
		checkAdvance(t, e, w, "0@"+fmt.Sprint(w), api.OK)
		checkAdvance(t, e, w-1, "", api.ErrLate)
		checkAdvance(t, e, math.MinInt64, "", api.ErrLate)
		checkAdvance(t, e, w, "", api.OK)
		if w < math.MaxInt64 {
			checkAdvance(t, e, w+1, "", api.OK)
			checkAdvance(t, e, w, "", api.ErrLate)
		}
	}
}

func TestP6OnlyEventsUpToTheWatermarkAreProcessed(t *testing.T) {
	e := newEngine(t, "a b+ / 10")
	feedAll(t, e, "b5 b4 a3 b6")
	checkAdvance(t, e, 2, "", api.OK)
	checkAdvance(t, e, 3, "", api.OK)
	checkAdvance(t, e, 4, "2 1@4", api.OK)
	// One of a moment between comes still.
	feedAll(t, e, "b5 a5")
	checkAdvance(t, e, 5, "2 0@5, 2 1 0@5, 2 0 4@5, 2 1 0 4@5, 2 1 4@5, 2 4@5", api.OK)
	checkAdvance(t, e, 5, "", api.OK)
	checkFeed(t, e, "b5", 0, api.ErrLate)
}

func TestP6BothEndsOfTime(t *testing.T) {
	least, last := int64(math.MinInt64), int64(math.MaxInt64)
	for _, c := range []struct {
		text string
		a, b int64
		want bool
	}{
		{"a b / 9999", least + 1, last, false},
		{"a b / 9999", least + 1, 0, false},
		{"a b / 9999", -1, last, false},
		{"a b / 9999", least + 1, least + 10000, true},
		{"a b / 9999", least + 1, least + 10001, false},
		{"a b / 9999", last - 9999, last, true},
		{"a b / 9999", last - 10000, last, false},
		{"a b / 9999", -5000, 4999, true},
		{"a b / 9999", -5000, 5000, false},
		{"a b / 0", last, last, true},
		{"a b / 0", least + 1, least + 1, true},
		{"a b / 0", least + 1, last, false},
	} {
		for _, halt := range []bool{false, true} {
			e := newEngine(t, c.text)
			checkOK(t, e, 'b', c.b)
			checkOK(t, e, 'a', c.a)
			checkOK(t, e, 'b', c.b)
			want := ""
			if c.want {
				want = fmt.Sprintf("1 2@%d", c.b)
				if c.a != c.b {
					want = fmt.Sprintf("1 0@%d, 1 2@%d", c.b, c.b)
				}
			}
			if halt && c.a != c.b {
				checkAdvance(t, e, c.a, "", api.OK)
			}
			checkAdvance(t, e, last, want, api.OK)
			checkAdvance(t, e, last, "", api.OK)
		}
	}
}

// feedInTurns hands over more events than can wait, all of one moment each.
func feedInTurns(t *testing.T, e *spotter.Engine, kind rune, counts ...int) {
	t.Helper()
	for i, n := range counts {
		for range n {
			checkOK(t, e, kind, int64(i+1))
		}
		if _, errno := e.Advance(int64(i + 1)); errno != api.OK {
			t.Fatalf("Advance(%d): error %d", i+1, errno)
		}
	}
}

func TestP7RunsUnderWay(t *testing.T) {
	e := newEngine(t, "a b / 9")
	feedInTurns(t, e, 'a', 12, 12)
	checkFeed(t, e, "a3", 24, api.OK)
	for range 2 {
		checkAdvance(t, e, 3, "", api.ErrFull)
		checkAdvance(t, e, 100, "", api.ErrFull)
	}
	// Nothing was changed: the watermark is 2, the event waits still.
	checkFeed(t, e, "b3", 25, api.OK)
	checkAdvance(t, e, 1, "", api.ErrLate)
	checkAdvance(t, e, 2, "", api.OK)
	checkAdvance(t, e, 3, "", api.ErrFull)
}

// With 'a b', the runs of one moment fall away as soon as an event lies further than the window behind them.
func TestP7OnlyRunsInTheWindowCount(t *testing.T) {
	for _, c := range []struct {
		moment int64
		errno  api.Errno
	}{
		{10, api.ErrFull}, // just as far as the window behind the first twelve: 25
		{11, api.OK},      // one further: 13
	} {
		e := newEngine(t, "a b / 9")
		feedInTurns(t, e, 'a', 12, 12)
		checkOK(t, e, 'a', c.moment)
		checkAdvance(t, e, c.moment, "", c.errno)
	}
}

// Behind each event the runs are counted, not at the end alone.
func TestP7CountsBehindEachEvent(t *testing.T) {
	e := newEngine(t, "a b / 9")
	feedInTurns(t, e, 'a', 12, 12)
	feedAll(t, e, "a3 b100")
	checkAdvance(t, e, 100, "", api.ErrFull)
	checkAdvance(t, e, 200, "", api.ErrFull)
	checkAdvance(t, e, 2, "", api.OK)
}

// Matches that were found ahead of the event that is one too many are not told, and come again.
func TestP7TellsNothingBesideTheError(t *testing.T) {
	e := newEngine(t, "a+ / 100")
	feedAll(t, e, "a1 a2 a3 a4 a5")
	checkAdvance(t, e, 5, "", api.ErrFull)
	checkAdvance(t, e, 2, "0@1, 0 1@2, 1@2", api.OK)
	checkAdvance(t, e, 5, "", api.ErrFull)
	matches, errno := e.Advance(4)
	if len(matches) != 4+8 || errno != api.OK {
		t.Errorf("15 runs under way: %d matches, %d", len(matches), errno)
	}
	checkAdvance(t, e, 5, "", api.ErrFull)
}

func TestP7WhatCounts(t *testing.T) {
	for _, c := range []struct {
		text, fed string
		errno     api.Errno
	}{
		// Runs at a last step without '+' cannot go on: none of these is under way.
		{"a / 9", "a1 a1 a1 a1 a1 a1 a1 a1 a1 a1 a1 a1", api.OK},
		// 3 runs of a alone; 3 * 7 with one b or more: 24
		{"a b+ / 9", "a1 a1 a1 b2 b2 b2", api.OK},
		{"a b+ / 9", "a1 a1 a1 b2 b2 b2 a2", api.ErrFull},
		{"a b+ / 9", "a1 a1 a1 b2 b2 b2 a12", api.OK},
		// the same with the matches not under way: 3 + 9
		{"a b c / 9", "a1 a1 a1 b2 b2 b2 c3 c3 c3 c3 c3 c3", api.OK},
		// 4 + 4*5 = 24, and one more
		{"a b c / 9", "a1 a1 a1 a1 b2 b2 b2 b2 b2", api.OK},
		{"a b c / 9", "a1 a1 a1 a1 b2 b2 b2 b2 b2 a3", api.ErrFull},
		{"a b c / 9", "a1 a1 a1 a1 b2 b2 b2 b2 b2 b3", api.ErrFull},
		{"a b c / 9", "a1 a1 a1 a1 b2 b2 b2 b2 b2 c3", api.OK},
		{"a+ / 9", "a1 a2 a3 a4", api.OK},         // 15
		{"a+ / 9", "a1 a2 a3 a4 a5", api.ErrFull}, // 31
		// One list at two steps is two runs, if both can go on.
		{"a+ a / 9", "a1 a2 a3 a4", api.OK},        // 15
		{"a+ a+ / 9", "a1 a2 a3", api.OK},          // 7 + 4
		{"a+ a+ / 9", "a1 a2 a3 a4", api.ErrFull},  // 15 + 11
		{"a+ a b / 9", "a1 a2 a3 a4", api.ErrFull}, // 15 + 11
		// A list that can be dealt out in several ways to one step is one run.
		{"a+ a+ b / 9", "a1 a2 a3 b4", api.OK},                 // 7 + 4
		{"a+ a+ a+ / 9", "a1 a2 a3", api.OK},                   // 7 + 4 + 1
		{"a+ a+ a+ a+ / 2", "a1 a2 a3 a4 a5 a6 a7 a8", api.OK}, // 7 + 4 + 1 each time
		{"a a+ a+ b / 9", "a1 a2 a3 a4", api.OK},               // 4 + 11 + 5
		{"a a+ a+ b / 9", "a1 a2 a3 a4 b5 a15", api.OK},        // 4 + 11 + 5
		{"a a+ a+ b / 9", "a1 a2 a3 a4 a5", api.ErrFull},       // 5 + 26 + 16
		// window 0: only those of the moment count
		{"a+ / 0", "a1 a1 a1 a1 a2 a2 a2 a2 a3 a3 a3 a3", api.OK},
		{"a+ / 0", "a1 a1 a1 a1 a1", api.ErrFull},
	} {
		e := newEngine(t, c.text)
		feedAll(t, e, c.fed)
		if matches, errno := e.Advance(20); errno != c.errno || errno != api.OK && matches != nil {
			t.Errorf("%q, fed %q: %v, %d; want error %d", c.text, c.fed, matches, errno, c.errno)
		}
	}
}

// An Advance, even without events, ends no run that an event above the watermark can go on with.
func TestP8RunsStayUnderWay(t *testing.T) {
	for _, w := range []int64{1, 2, 9, 10} {
		e := newEngine(t, "a b / 10")
		feedAll(t, e, "a1")
		checkAdvance(t, e, 1, "", api.OK)
		checkAdvance(t, e, w, "", api.OK)
		checkAdvance(t, e, w, "", api.OK)
		feedAll(t, e, "b11 b12")
		checkAdvance(t, e, 12, "0 1@11", api.OK)
	}
}

func TestP8RunsEndWithTheirWindow(t *testing.T) {
	for _, w := range []int64{11, 12, 13, 1000, math.MaxInt64 - 1} {
		e := newEngine(t, "a b / 10")
		feedInTurns(t, e, 'a', 12, 12)
		checkAdvance(t, e, w, "", api.OK)
		checkOK(t, e, 'b', w+1)
		want := ""
		if w == 11 {
			for i := 12; i < 24; i++ {
				want += fmt.Sprintf(", %d 24@12", i)
			}
		}
		checkAdvance(t, e, w+1, strings.TrimPrefix(want, ", "), api.OK)
	}
}
