package engine

import (
	"errors"
	"reflect"
	"slices"
	"testing"

	"spotter/api"
	"spotter/frame"
)

func TestLoadGivesTheSavedEngine(t *testing.T) {
	e := engineOf(t, "a+ a+ b / 9")
	feed(t, e, 'a', 5, 1, 3, 2)
	feed(t, e, 'b', 4, 9)
	feed(t, e, 'x', 9)
	advance(t, e, 3)
	got, err := Load(e.Save())
	if err != nil {
		t.Fatal(err)
	}
	// The heap may lie otherwise: its order is what is the same.
	slices.SortFunc(e.waiting, func(a, b event) int { return int(a.time - b.time) })
	if !reflect.DeepEqual(got, e) {
		t.Errorf("loaded %v; want %v", got, e)
	}
}

func TestSaveLeavesTheHeapAsItIs(t *testing.T) {
	e := engineOf(t, "a / 9")
	feed(t, e, 'a', 5, 4, 3, 2, 1)
	before := slices.Clone(e.waiting)
	e.Save()
	if !slices.Equal(e.waiting, before) {
		t.Errorf("the heap turned into %v; it was %v", e.waiting, before)
	}
}

// refusal is what Load says of a frame with these things in it.
func refusal(t *testing.T, write func(w *frame.Writer)) string {
	t.Helper()
	w := frame.NewWriter(frame.State)
	write(w)
	e, err := Load(w.Frame())
	fault, ok := errors.AsType[frame.BytesError](err)
	if !ok || e != nil {
		t.Errorf("Load = %v, %v", e, err)
	}
	return fault.Fault
}

func TestLoadTellsTheFault(t *testing.T) {
	// head is of the pattern 'a b+', with watermark 20 and next offset 40.
	head := func(w *frame.Writer) {
		w.Text("a b+ / 10")
		w.Moment(20)
		w.Count(40)
	}
	for want, numbers := range map[string][]int{
		"too many events wait":                       {13},
		"the waiting events are not in their order":  {2, 3, 'a', 50, 2, 'a', 50},
		"two waiting events have one offset":         {2, 3, 'a', 50, 3, 'a', 52},
		"an offset is not below the next one":        {1, 40, 'a', 50},
		"the kind is no rune":                        {1, 3, 0x110000, 50},
		"the pattern has not the kind":               {1, 3, 'c', 50},
		"a waiting event is not above the watermark": {1, 3, 'a', 40},
		"too many runs are under way":                {0, 25},
		"the runs are not in their order":            {0, 2, 0, 1, 4, 40, 0, 1, 3, 40},
		"the pattern has not the step":               {0, 1, 2},
		"a run has too few or too many events":       {0, 1, 0, 2, 3, 4, 40},
		"an offset is twice in a run":                {0, 1, 1, 2, 3, 3, 40},
		"an event of a run waits":                    {1, 3, 'a', 50, 1, 0, 1, 3, 40},
		"a run begins above the watermark":           {0, 1, 0, 1, 3, 42},
		"a run began too early":                      {0, 1, 0, 1, 3, 20},
		"bytes follow":                               {0, 0, 0},
		"too few bytes":                              {0},
	} {
		got := refusal(t, func(w *frame.Writer) {
			head(w)
			for _, n := range numbers {
				w.Count(n)
			}
		})
		if got != want {
			t.Errorf("%v is refused as %q; want %q", numbers, got, want)
		}
	}
	for want, text := range map[string]string{"no pattern": "a b+ 10", "the pattern is not canonical": "a b+/ 10"} {
		if got := refusal(t, func(w *frame.Writer) { w.Text(text) }); got != want {
			t.Errorf("%q is refused as %q; want %q", text, got, want)
		}
	}
	got := refusal(t, func(w *frame.Writer) {
		w.Text("a / 5")
		w.Moment(20)
		w.Number(1 << 53)
	})
	if got != "the next offset is too great" {
		t.Errorf("2^53 is refused as %q", got)
	}
	got = refusal(t, func(w *frame.Writer) {
		w.Text("a / 5")
		for _, n := range []int{40, 40, 0, 1, 0, 1, 3, 40} {
			w.Count(n)
		}
	})
	if got != "a run cannot go on" {
		t.Errorf("a run at the last step is refused as %q", got)
	}
}

// A frame may hold one list at two steps with two first moments. Where the two become one run, it goes on from the first of them.
func TestRunsThatBecomeOne(t *testing.T) {
	e := engineOf(t, "a+ a+ b / 9")
	e.watermark, e.next = 5, 10
	var want []run
	for i := range 5 {
		list, longer := []int{2 * i, 2*i + 1}, []int{2 * i, 2*i + 1, 10}
		e.runs = append(e.runs, run{0, list, 3}, run{1, list, 2})
		want = append(want, run{0, list, 3}, run{1, list, 2}, run{0, longer, 3}, run{1, longer, 3})
	}
	e, err := Load(e.Save())
	if err != nil {
		t.Fatal(err)
	}
	feed(t, e, 'a', 6)
	advance(t, e, 6)
	checkRuns(t, e, append(want, run{0, []int{10}, 6})...)
}

func TestLoadedEngineFeeds(t *testing.T) {
	e := engineOf(t, "a / 9")
	feed(t, e, 'a', 5, 4)
	e, err := Load(e.Save())
	if err != nil {
		t.Fatal(err)
	}
	feed(t, e, 'a', 3)
	matches, err := e.Advance(9)
	want := []api.Match{{Offsets: []int{2}, End: 3}, {Offsets: []int{1}, End: 4}, {Offsets: []int{0}, End: 5}}
	if err != nil || !reflect.DeepEqual(matches, want) {
		t.Errorf("Advance(9) = %v, %v; want %v", matches, err, want)
	}
}
