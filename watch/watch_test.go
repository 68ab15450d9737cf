package watch

import (
	"bytes"
	"math"
	"testing"
	"testing/synctest"

	"spotter/api"
	"spotter/engine"
	"spotter/pattern"
)

func engineOf(t *testing.T, text string) *engine.Engine {
	t.Helper()
	p, err := pattern.Parse(text)
	if err != nil {
		t.Fatal(err)
	}
	return engine.New(p)
}

// ofKindA is an event at each of the moments 1 to n.
func ofKindA(n int) []api.Event {
	var out []api.Event
	for i := range n {
		out = append(out, api.Event{Kind: 'a', Time: int64(i) + 1})
	}
	return out
}

// doneWorker is one whose done channel is closed, and from which nobody receives. In a bubble of synctest a worker that waits all the same is told at once.
func doneWorker(e *engine.Engine) (worker, <-chan api.Match) {
	found, done := make(chan api.Match), make(chan struct{})
	close(done)
	return worker{engine: e, found: found, done: done}, found
}

func checkClosed(t *testing.T, found <-chan api.Match) {
	t.Helper()
	if m, open := <-found; open {
		t.Errorf("%v was sent though nobody received", m)
	}
}

func TestP15WorkEndsWhenItIsDone(t *testing.T) {
	synctest.Test(t, func(t *testing.T) {
		e := engineOf(t, "a / 0")
		before := e.Save()
		w, found := doneWorker(e)
		w.work(ofKindA(100), 200)
		checkClosed(t, found)
		if !bytes.Equal(e.Save(), before) {
			t.Error("the worker went on though it was done")
		}
	})
}

// There are no events at which it could see that it is done: the matches of the last Advance must not hold it up.
func TestP15SendingEndsWhenItIsDone(t *testing.T) {
	synctest.Test(t, func(t *testing.T) {
		e := engineOf(t, "a / 0")
		for _, ev := range ofKindA(12) {
			e.Feed(ev)
		}
		w, found := doneWorker(e)
		w.work(nil, 200)
		checkClosed(t, found)
	})
}

func TestP15BelowOneNothingIsLookedFor(t *testing.T) {
	for _, stop := range []int{0, -1, math.MinInt} {
		e := engineOf(t, "a / 0")
		before := e.Save()
		if got := Matches(e, ofKindA(5), 9, stop); got != nil {
			t.Errorf("stop %d: %v", stop, got)
		}
		if !bytes.Equal(e.Save(), before) {
			t.Errorf("stop %d: the engine was used", stop)
		}
	}
}

// Behind the answer nobody but the caller uses the engine.
func TestP15TheEngineIsTheCallersAgain(t *testing.T) {
	events := ofKindA(500)
	for stop := 1; stop <= 501; stop += 25 {
		e := engineOf(t, "a / 0")
		if got := Matches(e, events, 1000, stop); len(got) != min(stop, 500) {
			t.Fatalf("stop %d: %d matches", stop, len(got))
		}
		state := e.Save()
		for range 100 {
			if !bytes.Equal(e.Save(), state) {
				t.Fatalf("stop %d: the engine is used still", stop)
			}
		}
	}
}

func TestP15AllEventsAreHandedOver(t *testing.T) {
	e, other := engineOf(t, "a b / 9"), engineOf(t, "a b / 9")
	Matches(e, ofKindA(5), 9, 1)
	for _, ev := range ofKindA(5) {
		other.Feed(ev)
	}
	other.Advance(9)
	if !bytes.Equal(e.Save(), other.Save()) {
		t.Errorf("the engine's state is %q; want %q", e.Save(), other.Save())
	}
}
