package engine

import (
	"container/heap"
	"slices"
)

// event is one that waits: its offset tells it from others of its kind and moment.
type event struct {
	offset int
	kind   rune
	time   int64
}

// queue is a heap of events: the one that is processed next lies in front.
type queue []event

func (q queue) Len() int { return len(q) }

func (q queue) Less(i, j int) bool {
	if q[i].time != q[j].time {
		return q[i].time < q[j].time
	}
	return q[i].offset < q[j].offset
}

func (q queue) Swap(i, j int) { q[i], q[j] = q[j], q[i] }

// Push is for package heap alone, as Pop is: add and take keep the heap in order.
func (q *queue) Push(x any) { *q = append(*q, x.(event)) }

func (q *queue) Pop() any {
	last := len(*q) - 1
	ev := (*q)[last]
	*q = (*q)[:last]
	return ev
}

func (q *queue) add(ev event) { heap.Push(q, ev) }

// take gives the next event; false, if none waits whose moment is at most w.
func (q *queue) take(w int64) (event, bool) {
	if len(*q) == 0 || (*q)[0].time > w {
		return event{}, false
	}
	return heap.Pop(q).(event), true
}

// has: the event of the offset waits.
func (q queue) has(offset int) bool {
	return slices.ContainsFunc(q, func(ev event) bool { return ev.offset == offset })
}
