package engine

import (
	"slices"
	"unicode"

	"spotter/api"
	"spotter/frame"
	"spotter/pattern"
)

// endOfNext is what the next offset of a state must lie below.
const endOfNext = 1 << 53

// Load is the engine whose state is in a frame. Its error is frame.BytesError.
func Load(state []byte) (*Engine, error) {
	return frame.Read(frame.State, state, readEngine)
}

// readEngine reads what Save writes. What comes later must agree with what came ahead, so the engine is filled piece by piece.
func readEngine(r *frame.Reader) *Engine {
	e := &Engine{}
	e.pattern = readPattern(r)
	e.watermark = r.Moment()
	e.next = r.Below(endOfNext, "the next offset is too great")
	e.readWaiting(r)
	e.readRuns(r)
	return e
}

func readPattern(r *frame.Reader) pattern.Pattern {
	text := r.Text()
	p, err := pattern.Parse(text)
	r.Need(err == nil, "no pattern")
	r.Need(p.String() == text, "the pattern is not canonical")
	return p
}

// readWaiting needs no heap to be made: events that lie in their order are one.
func (e *Engine) readWaiting(r *frame.Reader) {
	for i := range r.Below(api.MaxBuffer+1, "too many events wait") {
		ev := e.readEvent(r)
		r.Need(!e.waiting.has(ev.offset), "two waiting events have one offset")
		e.waiting = append(e.waiting, ev)
		r.Need(i == 0 || e.waiting.Less(i-1, i), "the waiting events are not in their order")
	}
}

func (e *Engine) readEvent(r *frame.Reader) event {
	var ev event
	ev.offset = e.readOffset(r)
	ev.kind = rune(r.Below(unicode.MaxRune+1, "the kind is no rune"))
	r.Need(e.pattern.Has(ev.kind), "the pattern has not the kind")
	ev.time = r.Moment()
	r.Need(ev.time > e.watermark, "a waiting event is not above the watermark")
	return ev
}

func (e *Engine) readOffset(r *frame.Reader) int {
	return r.Below(e.next, "an offset is not below the next one")
}

func (e *Engine) readRuns(r *frame.Reader) {
	compare := runOrder()
	for i := range r.Below(api.MaxRuns+1, "too many runs are under way") {
		e.runs = append(e.runs, e.readRun(r))
		r.Need(i == 0 || compare(e.runs[i-1], e.runs[i]) < 0, "the runs are not in their order")
	}
}

func (e *Engine) readRun(r *frame.Reader) run {
	var out run
	out.step = r.Below(len(e.pattern.Steps), "the pattern has not the step")
	r.Need(e.pattern.GoesOn(out.step), "a run cannot go on")
	for range r.Number() {
		out.offsets = append(out.offsets, e.readRunOffset(r))
	}
	r.Need(e.pattern.Fits(out.step, len(out.offsets)), "a run has too few or too many events")
	r.Need(!hasTwice(out.offsets), "an offset is twice in a run")
	out.first = r.Moment()
	r.Need(out.first <= e.watermark, "a run begins above the watermark")
	r.Need(e.lasts(out, e.watermark), "a run began too early")
	return out
}

func (e *Engine) readRunOffset(r *frame.Reader) int {
	offset := e.readOffset(r)
	r.Need(!e.waiting.has(offset), "an event of a run waits")
	return offset
}

// hasTwice sorts a copy: a run may have as many offsets as the frame has bytes.
func hasTwice(offsets []int) bool {
	sorted := slices.Sorted(slices.Values(offsets))
	return len(slices.Compact(sorted)) < len(offsets)
}
