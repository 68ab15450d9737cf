package engine

import (
	"math"
	"math/rand"
	"slices"
	"testing"
)

func TestQueueGivesEventsInTheirOrder(t *testing.T) {
	random := rand.New(rand.NewSource(7))
	moments := []int64{math.MinInt64, math.MinInt64 + 1, -1, 0, 1, 2, 3, math.MaxInt64}
	for range 2000 {
		var q queue
		var want []event
		for offset := range random.Intn(13) {
			ev := event{offset: offset, kind: 'a', time: moments[random.Intn(len(moments))]}
			q.add(ev)
			want = append(want, ev)
		}
		// Added by their offsets: a stable sort by moments is their order.
		slices.SortStableFunc(want, func(a, b event) int {
			if a.time < b.time {
				return -1
			}
			if a.time > b.time {
				return 1
			}
			return 0
		})
		for _, w := range want {
			if got, ok := q.take(w.time); !ok || got != w {
				t.Fatalf("took %v, %v; want %v", got, ok, w)
			}
		}
		if ev, ok := q.take(math.MaxInt64); ok {
			t.Fatalf("took %v of an empty queue", ev)
		}
	}
}

func TestQueueKeepsLaterEvents(t *testing.T) {
	var q queue
	q.add(event{offset: 0, kind: 'a', time: 5})
	if ev, ok := q.take(4); ok || ev != (event{}) {
		t.Errorf("took %v, %v", ev, ok)
	}
	if ev, ok := q.take(5); !ok || ev.time != 5 {
		t.Errorf("took %v, %v", ev, ok)
	}
}

func TestQueueHas(t *testing.T) {
	var q queue
	if q.has(0) {
		t.Error("an empty queue has an offset")
	}
	for _, offset := range []int{7, 3, 5} {
		q.add(event{offset: offset, kind: 'a', time: int64(offset)})
	}
	for offset := range 10 {
		if want := offset == 3 || offset == 5 || offset == 7; q.has(offset) != want {
			t.Errorf("has(%d) = %v", offset, !want)
		}
	}
}
