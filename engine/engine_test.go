package engine

import (
	"errors"
	"math"
	"reflect"
	"testing"

	"spotter/api"
	"spotter/pattern"
)

func engineOf(t *testing.T, text string) *Engine {
	t.Helper()
	p, err := pattern.Parse(text)
	if err != nil {
		t.Fatal(err)
	}
	return New(p)
}

func feed(t *testing.T, e *Engine, kind rune, moments ...int64) {
	t.Helper()
	for _, m := range moments {
		if _, err := e.Feed(api.Event{Kind: kind, Time: m}); err != nil {
			t.Fatal(err)
		}
	}
}

func advance(t *testing.T, e *Engine, w int64) {
	t.Helper()
	if _, err := e.Advance(w); err != nil {
		t.Fatal(err)
	}
}

func checkRuns(t *testing.T, e *Engine, want ...run) {
	t.Helper()
	if len(e.runs) != len(want) || len(want) > 0 && !reflect.DeepEqual(e.runs, want) {
		t.Errorf("at %d the runs are %v; want %v", e.watermark, e.runs, want)
	}
}

// P8: a run stays while the watermark lies less than the window behind its first event.
func TestP8RunsBehindAdvance(t *testing.T) {
	e := engineOf(t, "a b / 10")
	feed(t, e, 'a', 1, 3)
	advance(t, e, 3)
	first, second := run{0, []int{0}, 1}, run{0, []int{1}, 3}
	checkRuns(t, e, first, second)
	advance(t, e, 10)
	checkRuns(t, e, first, second)
	advance(t, e, 11)
	checkRuns(t, e, second)
	advance(t, e, 12)
	checkRuns(t, e, second)
	advance(t, e, 13)
	checkRuns(t, e)
}

func TestP8RunsOfOneAdvance(t *testing.T) {
	for w, stays := range map[int64]bool{1: true, 10: true, 11: false, math.MaxInt64: false} {
		e := engineOf(t, "a b / 10")
		feed(t, e, 'a', 1)
		advance(t, e, w)
		if (len(e.runs) == 1) != stays {
			t.Errorf("Advance(%d): the runs are %v", w, e.runs)
		}
	}
}

func TestP8NoRunStaysInWindowZero(t *testing.T) {
	for _, moment := range []int64{math.MinInt64 + 1, 0, math.MaxInt64} {
		e := engineOf(t, "a+ b / 0")
		feed(t, e, 'a', moment, moment)
		advance(t, e, moment)
		checkRuns(t, e)
	}
}

func TestP8AtBothEndsOfTime(t *testing.T) {
	e := engineOf(t, "a b / 9999")
	feed(t, e, 'a', math.MinInt64+1)
	advance(t, e, math.MinInt64+9999)
	checkRuns(t, e, run{0, []int{0}, math.MinInt64 + 1})
	advance(t, e, math.MinInt64+10000)
	checkRuns(t, e)
	feed(t, e, 'a', math.MaxInt64-9999, math.MaxInt64-9998, math.MaxInt64)
	advance(t, e, math.MaxInt64)
	checkRuns(t, e, run{0, []int{2}, math.MaxInt64 - 9998}, run{0, []int{3}, math.MaxInt64})
}

// Runs that cannot go on are not kept; the others lie by their lists, then by their steps, each once.
func TestRunsInTheirOrder(t *testing.T) {
	e := engineOf(t, "a+ a+ a / 9")
	feed(t, e, 'a', 3, 2, 1)
	advance(t, e, 3)
	checkRuns(t, e,
		run{0, []int{0}, 3},
		run{0, []int{1}, 2}, run{0, []int{1, 0}, 2}, run{1, []int{1, 0}, 2},
		run{0, []int{2}, 1}, run{0, []int{2, 0}, 1}, run{1, []int{2, 0}, 1}, run{0, []int{2, 1}, 1}, run{1, []int{2, 1}, 1},
		run{0, []int{2, 1, 0}, 1}, run{1, []int{2, 1, 0}, 1})
}

func TestArrangedLeavesTheFirstOfTheSame(t *testing.T) {
	var runs []run
	for i := range 60 {
		runs = append(runs, run{step: i % 2, offsets: []int{i * 7 % 5}, first: int64(i)})
	}
	for i, r := range arranged(runs) {
		if r.offsets[0] != i/2 || r.step != i%2 || r.first >= 10 {
			t.Errorf("run %d is %v", i, r)
		}
	}
}

func TestAnErrorLeavesTheStateAsItIs(t *testing.T) {
	e := engineOf(t, "a+ / 9")
	feed(t, e, 'a', 5, 4, 3, 2, 1)
	advance(t, e, 2)
	watermark, next := e.watermark, e.next
	waiting, runs := append(queue(nil), e.waiting...), append([]run(nil), e.runs...)
	for _, w := range []int64{1, 5, 100} {
		if matches, err := e.Advance(w); err == nil || matches != nil {
			t.Errorf("Advance(%d) = %v, %v", w, matches, err)
		}
	}
	if n, err := e.Feed(api.Event{Kind: 'a', Time: 2}); n != 0 || err == nil {
		t.Errorf("Feed = %d, %v", n, err)
	}
	if e.watermark != watermark || e.next != next || !reflect.DeepEqual(e.waiting, waiting) {
		t.Errorf("the engine turned into %v", e)
	}
	checkRuns(t, e, runs...)
}

func TestErrors(t *testing.T) {
	e := engineOf(t, "a+ / 9")
	advance(t, e, 0)
	_, err := e.Feed(api.Event{Kind: 'a', Time: 0})
	if want := (LateError{Moment: 0, Watermark: 0}); !errors.Is(err, want) {
		t.Errorf("a late event: %v", err)
	}
	_, err = e.Advance(-1)
	if want := (LateError{Moment: -1, Watermark: 0}); !errors.Is(err, want) || err.Error() != "moment -1 is late: the watermark is 0" {
		t.Errorf("an Advance back: %v", err)
	}
	feed(t, e, 'a', 1, 2, 3, 4, 5, 6, 7, 8, 9, 10, 11, 12)
	_, err = e.Feed(api.Event{Kind: 'a', Time: 13})
	if full, ok := errors.AsType[FullError](err); !ok || full.Max != 12 || err.Error() != "more than 12 events would wait" {
		t.Errorf("a thirteenth event: %v", err)
	}
	_, err = e.Advance(5)
	if full, ok := errors.AsType[FullError](err); !ok || full.Max != 24 || err.Error() != "more than 24 runs would be under way" {
		t.Errorf("too many runs: %v", err)
	}
}
