package engine

import (
	"math"
	"slices"

	"spotter/frame"
)

// Save is a frame of the engine's state.
func (e *Engine) Save() []byte {
	w := frame.NewWriter(frame.State)
	w.Text(e.pattern.String())
	w.Moment(e.watermark)
	w.Count(e.next)
	e.waiting.save(w)
	w.Count(len(e.runs))
	for _, r := range e.runs {
		r.save(w)
	}
	return w.Frame()
}

// save takes the events from a copy: a heap as it lies is in no order but for the first one.
func (q queue) save(w *frame.Writer) {
	w.Count(len(q))
	rest := slices.Clone(q)
	for range q {
		ev, _ := rest.take(math.MaxInt64)
		w.Count(ev.offset)
		w.Count(int(ev.kind))
		w.Moment(ev.time)
	}
}

func (r run) save(w *frame.Writer) {
	w.Count(r.step)
	w.Count(len(r.offsets))
	for _, offset := range r.offsets {
		w.Count(offset)
	}
	w.Moment(r.first)
}
