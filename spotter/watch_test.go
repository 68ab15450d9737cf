package spotter_test

import (
	"math"
	"math/rand"
	"reflect"
	"runtime"
	"slices"
	"strings"
	"sync"
	"testing"
	"testing/synctest"
	"unsafe"

	"spotter/api"
	"spotter/spotter"
)

func checkWatch(t *testing.T, text string, events []api.Event, last int64, stop int, want string) {
	t.Helper()
	matches, errno := spotter.Watch(text, events, last, stop)
	if told(matches) != want || errno != api.OK {
		t.Errorf("Watch(%q, %v, %d, %d) = %q, %d; want %q", text, events, last, stop, told(matches), errno, want)
	}
}

func TestP15TheErrorsOfNew(t *testing.T) {
	events := eventsOf("a1 b2")
	for _, text := range oddTexts() {
		_, want := spotter.New(text)
		for _, stop := range []int{math.MinInt, -1, 0, 1, 5, math.MaxInt} {
			for _, list := range [][]api.Event{nil, events} {
				matches, errno := spotter.Watch(text, list, 9, stop)
				if errno != want || errno != api.OK && matches != nil {
					t.Errorf("Watch(%q, %v, 9, %d) = %v, %d; New says %d", text, list, stop, matches, errno, want)
				}
			}
		}
	}
	for text, want := range map[string]api.Errno{"a b": api.ErrPattern, "": api.ErrPattern, "a / 5" + strings.Repeat(" ", 56): api.ErrLong, strings.Repeat("a", 61): api.ErrLong} {
		if matches, errno := spotter.Watch(text, events, 9, 5); matches != nil || errno != want {
			t.Errorf("Watch(%q) = %v, %d; want error %d", text, matches, errno, want)
		}
	}
}

func TestP15TheMatchesThatCome(t *testing.T) {
	for _, c := range []struct {
		text, events string
		last         int64
		want         string
	}{
		{"a b+ / 10", "a1 b2 b3", 20, "0 1@2, 0 1 2@3, 0 2@3"},
		{" a  b+/10 ", "a1 b2 b3", 3, "0 1@2, 0 1 2@3, 0 2@3"},
		{"a b / 10", "a1 b11 b12", 20, "0 1@11"},
		{"a b / 10", "a1 a1 b1", 20, "0 2@1, 1 2@1"},
		{"a b / 10", "b1 a1 b1", 1, "1 2@1"},
		{"é / 0", "é1 e2 é3", 9, "0@1, 2@3"},
		{"a / 5", "", 20, ""},
		{"a / 5", "b1 c2", 20, ""},
		// the last moment: at an event, before it, below the watermark
		{"a / 5", "a1 a4", 4, "0@1, 1@4"},
		{"a / 5", "a1 a4", 3, "0@1"},
		{"a / 5", "a1 a4", 2, "0@1"},
		{"a / 5", "a1 a4", 0, "0@1"},
		{"a / 5", "a1 a4", math.MinInt64, "0@1"},
		{"a / 5", "a1", 0, ""},
		// each event advances up to the moment before its own, neither less nor more
		{"a / 5", "a3 a2 a3", 9, "0@3, 1@3"},
		{"a / 5", "a4 a2 a3", 9, "0@4"},
		{"a / 5", "a1 x9", 0, "0@1"},
		{"a / 5", "a1 x2", 0, "0@1"},
		{"a / 5", "a1 x1", 0, ""},
		{"a / 5", "x9 a8 a9", 9, "1@9"},
		{"a / 5", "x-5 a-6 a-5", 0, "1@-5"},
		// a late event has no offset, and those behind it come all the same
		{"a b / 10", "a5 b4 a5 b6 b5 b6", 9, "0 2@6, 1 2@6, 0 3@6, 1 3@6"},
		{"a / 5", "a5 a1 a2 a3 a4 a5", 9, "0@5, 1@5"},
	} {
		checkWatch(t, c.text, eventsOf(c.events), c.last, 100, c.want)
	}
}

func TestP15TheEndsOfTime(t *testing.T) {
	const least, most = math.MinInt64, math.MaxInt64
	at := func(moments ...int64) (out []api.Event) {
		for _, m := range moments {
			out = append(out, api.Event{Kind: 'a', Time: m})
		}
		return out
	}
	// Were there a moment before the least, it would be the greatest, and all that follows would be late.
	checkWatch(t, "a / 5", at(least, 1, 2), 9, 9, "0@1, 1@2")
	checkWatch(t, "a / 5", at(1, least, 1, 2), 9, 9, "0@1, 1@1, 2@2")
	checkWatch(t, "a / 5", at(least), most, 9, "")
	checkWatch(t, "a / 5", append(eventsOf("x7"), at(least, 7)...), least, 9, "")
	checkWatch(t, "a / 5", []api.Event{{Kind: 'x', Time: least}, {Kind: 'a', Time: 3}}, 9, 9, "0@3")
	checkWatch(t, "a / 5", at(least+1, least+2), least, 9, "0@-9223372036854775807")
	checkWatch(t, "a / 5", at(least+1), least+1, 9, "0@-9223372036854775807")
	checkWatch(t, "a / 5", at(least+1), least, 9, "")
	checkWatch(t, "a / 5", at(most, most-1, most), most, 9, "0@9223372036854775807, 1@9223372036854775807")
	checkWatch(t, "a / 5", at(most-1, most), most-1, 9, "0@9223372036854775806")
}

func TestP15RefusedEventsDoNotAdvance(t *testing.T) {
	full := strings.Repeat("a5 ", 12)
	all := "0@5, 1@5, 2@5, 3@5, 4@5, 5@5, 6@5, 7@5, 8@5, 9@5, 10@5, 11@5"
	for _, c := range []struct {
		events string
		last   int64
		want   string
	}{
		{full, 4, ""},
		{full, 5, all},
		{full + "a9", 4, ""},
		{full + "a9", 20, all},
		{full + "a9 a9", 4, ""},
		{full + "a5", 20, all},
		// an event of another kind is taken, and makes room
		{full + "x9", 4, all},
		{full + "x5 a9", 4, ""},
		{full + "x6 a9", 20, all + ", 13@9"},
		{full + "a7 x9 a8 a9", 20, all + ", 13@9"},
	} {
		checkWatch(t, "a / 5", eventsOf(c.events), c.last, 100, c.want)
	}
}

// onMoments is one event of the kind at each moment from 1 on.
func onMoments(kind rune, n int) []api.Event {
	var out []api.Event
	for i := range n {
		out = append(out, api.Event{Kind: kind, Time: int64(i) + 1})
	}
	return out
}

// More than 24 runs would be under way: the Advance that is refused gives nothing, also of the events that it had processed, and what came ahead of it stays.
func TestP15RefusedAdvancesArePassedOver(t *testing.T) {
	begins := eventsOf("a1 b2")
	checkWatch(t, "a b / 9999", slices.Concat(begins, onMoments('a', 40)[2:]), 99, 100, "0 1@2")
	checkWatch(t, "a b / 9999", slices.Concat(onMoments('a', 24), eventsOf("b50 a50 x60")), 99, 100, "")
	checkWatch(t, "a b / 9999", slices.Concat(onMoments('a', 25), eventsOf("b50 x60")), 99, 100, "")
	matches, errno := spotter.Watch("a b / 9999", slices.Concat(onMoments('a', 24), eventsOf("b50 x51 a51 x60")), 99, 100)
	if len(matches) != 24 || errno != api.OK {
		t.Errorf("%d matches, %d; want 24", len(matches), errno)
	}
}

func TestP15AtMostStop(t *testing.T) {
	for _, c := range []struct{ text, events string }{
		{"a / 5", ""},
		{"a / 5", "a1"},
		{"a / 5", "a1 a2 a3 a3 a4"},
		{"a b+ / 10", "a1 b2 b3 b4 b5 a5 b6 x30 a40 b41 b41"},
		{"a+ / 10", "a1 a1 a1 a1 x2 x3 x4"},
		{"a+ / 10", "a1 a1 a1 a1"},
	} {
		events := eventsOf(c.events)
		all := watchModel(c.text, events, 50, map[string]int{})
		stops := []int{math.MinInt, -2, -1, 0, math.MaxInt}
		for stop := 1; stop < len(all)+3; stop++ {
			stops = append(stops, stop)
		}
		for _, stop := range stops {
			checkWatch(t, c.text, events, 50, stop, told(all[:max(0, min(stop, len(all)))]))
		}
	}
	many := onMoments('a', 5000)
	for _, stop := range []int{1, 2, 1234, 4999, 5000, 5001, math.MaxInt} {
		if matches, errno := spotter.Watch("a / 0", many, math.MaxInt64, stop); len(matches) != min(stop, 5000) || errno != api.OK {
			t.Errorf("stop %d: %d matches, %d", stop, len(matches), errno)
		}
	}
}

func TestP15NoMatchesAreNoError(t *testing.T) {
	for _, stop := range []int{math.MinInt, -1, 0, 1} {
		for _, events := range [][]api.Event{nil, {}, eventsOf("b1 b2")} {
			if matches, errno := spotter.Watch("a / 5", events, 9, stop); len(matches) != 0 || errno != api.OK {
				t.Errorf("Watch(%v), stop %d = %v, %d", events, stop, matches, errno)
			}
		}
	}
}

// watchModel is the document's Watch once more, without a stop. It counts what it has met.
func watchModel(canonical string, events []api.Event, last int64, met map[string]int) []api.Match {
	m := newModel(canonical)
	var out []api.Match
	advance := func(w int64, late, full string) {
		matches, errno := m.advance(w)
		switch errno {
		case api.ErrLate:
			met[late]++
		case api.ErrFull:
			met[full]++
		}
		out = append(out, matches...)
	}
	for _, ev := range events {
		switch _, errno := m.feed(ev); errno {
		case api.ErrLate:
			met["late event"]++
		case api.ErrFull:
			met["event too many"]++
		case api.OK:
			advance(ev.Time-1, "never", "runs too many")
		}
	}
	advance(last, "last is late", "runs too many at last")
	if met["never"] > 0 {
		panic("the moment before an event that was taken is below the watermark")
	}
	return out
}

func TestP15AgainstTheModel(t *testing.T) {
	texts, tasks := randomTasks(rand.New(rand.NewSource(15)), 4000)
	random := rand.New(rand.NewSource(16))
	met := map[string]int{}
	for i, text := range texts {
		var events []api.Event
		for _, a := range tasks[i] {
			if a.feed {
				events = append(events, a.event)
			}
		}
		last := int64(0)
		if len(events) > 0 {
			last = events[len(events)-1].Time - int64(random.Intn(3)) + 1
		}
		all := watchModel(text, events, last, met)
		for _, stop := range []int{len(all) + random.Intn(3) - 1, random.Intn(len(all) + 1)} {
			if 0 < stop && stop < len(all) {
				met["cut off"]++
			}
			checkWatch(t, text, events, last, stop, told(all[:max(0, min(stop, len(all)))]))
		}
	}
	for _, what := range []string{"late event", "event too many", "runs too many", "last is late", "runs too many at last", "cut off"} {
		if met[what] < 100 {
			t.Errorf("%q was met %d times alone", what, met[what])
		}
	}
}

// Where a goroutine is left behind that waits for ever, synctest does not let the test end well.
func TestP15NoGoroutineIsLeft(t *testing.T) {
	for _, text := range []string{"a / 0", "a+ / 2", "a b / 9", "a a / 9", "b", ""} {
		for stop := -1; stop < 30; stop++ {
			synctest.Test(t, func(t *testing.T) {
				spotter.Watch(text, onMoments('a', 20), 99, stop)
				spotter.Watch(text, nil, 99, stop)
			})
		}
	}
}

// Of the goroutines that are there behind an answer none is at work in an engine any more.
func TestP15NobodyWorksBehindTheAnswer(t *testing.T) {
	events := onMoments('a', 3000)
	stacks := make([]byte, 1<<20)
	for i := range 300 {
		spotter.Watch("a+ / 2", events, math.MaxInt64, 1+i%7)
		for text := range strings.SplitSeq(string(stacks[:runtime.Stack(stacks, true)]), "\n\n") {
			if strings.Contains(text, "spotter/engine.(*Engine)") || strings.Contains(text, "spotter/watch.worker") {
				t.Fatalf("somebody works still:\n%s", text)
			}
		}
	}
}

func TestP2WatchHangsOnItsArgumentsAlone(t *testing.T) {
	events := eventsOf("a1 b2 b3 b4 a4 b6 x30 a40 b41 b41")
	var want []string
	for stop := range 30 {
		matches, _ := spotter.Watch("a b+ / 10", events, 50, stop)
		want = append(want, told(matches))
	}
	defer runtime.GOMAXPROCS(runtime.GOMAXPROCS(0))
	for _, threads := range []int{1, 2, 8} {
		runtime.GOMAXPROCS(threads)
		var group sync.WaitGroup
		for range 8 {
			group.Go(func() {
				for i := range 600 {
					checkWatch(t, "a b+ / 10", events, 50, i%30, want[i%30])
				}
			})
		}
		group.Wait()
	}
}

// Behind the events that are handed over lie others, which are not: neither may be written into.
func TestP2WatchKeepsAndChangesNothing(t *testing.T) {
	const pattern = " a b+ / 10"
	for stop, want := range []string{"", "0 1@2", "0 1@2, 0 1 3@4", "0 1@2, 0 1 3@4, 0 3@4", "0 1@2, 0 1 3@4, 0 3@4"} {
		text, events := []byte(pattern), eventsOf("a1 b2 x3 b4 b5 b6")
		got, errno := spotter.Watch(unsafe.String(&text[0], len(text)), events[:4], 9, stop)
		if string(text) != pattern || !slices.Equal(events, eventsOf("a1 b2 x3 b4 b5 b6")) {
			t.Errorf("stop %d: the pattern is %q, the events are %v now", stop, text, events)
		}
		clear(text)
		clear(events)
		if told(got) != want || errno != api.OK {
			t.Errorf("stop %d: %q, %d; want %q", stop, told(got), errno, want)
		}
	}
}

func TestP2WatchGivesListsThatShareNothing(t *testing.T) {
	events := eventsOf("a1 b2 b3 b4 a4 b6 x30 a40 b41 b41")
	want, _ := spotter.Watch("a b+ / 10", events, 50, 100)
	for stop := range len(want) + 2 {
		got, _ := spotter.Watch("a b+ / 10", events, 50, stop)
		for i := range got {
			if !reflect.DeepEqual(got[i], want[i]) {
				t.Fatalf("stop %d: match %d is %v; want %v", stop, i, got[i], want[i])
			}
			spoil(got[i].Offsets)
		}
		clear(got[:cap(got)])
	}
}
