// Package engine finds the matches of a pattern in events that come in any order.
package engine

import (
	"math"
	"slices"

	"spotter/api"
	"spotter/pattern"
)

// Engine holds the events that wait and the runs that are under way.
type Engine struct {
	pattern   pattern.Pattern
	watermark int64
	next      int // the offset of the next event
	waiting   queue
	runs      []run // in their order, all of them able to go on
}

// New is an engine without events.
func New(p pattern.Pattern) *Engine {
	return &Engine{pattern: p, watermark: math.MinInt64}
}

// Feed gives the event its offset. Its errors are LateError and FullError.
func (e *Engine) Feed(ev api.Event) (int, error) {
	if ev.Time <= e.watermark {
		return 0, LateError{Moment: ev.Time, Watermark: e.watermark}
	}
	if e.pattern.Has(ev.Kind) {
		if len(e.waiting) >= api.MaxBuffer {
			return 0, FullError{What: "events would wait", Max: api.MaxBuffer}
		}
		e.waiting.add(event{offset: e.next, kind: ev.Kind, time: ev.Time})
	}
	offset := e.next
	e.next++
	return offset, nil
}

// Advance processes the waiting events up to a moment and gives the matches that they end. Its errors are LateError and FullError.
func (e *Engine) Advance(w int64) ([]api.Match, error) {
	if w < e.watermark {
		return nil, LateError{Moment: w, Watermark: e.watermark}
	}
	// An error may come when some events are processed already: till all are, the engine keeps what it has.
	waiting, runs := slices.Clone(e.waiting), e.runs
	var matches []api.Match
	for {
		ev, ok := waiting.take(w)
		if !ok {
			break
		}
		live := e.inWindow(runs, ev.time)
		ended := e.grown(live, ev)
		runs = arranged(slices.Concat(live, e.ableToGoOn(ended)))
		if len(runs) > api.MaxRuns {
			return nil, FullError{What: "runs would be under way", Max: api.MaxRuns}
		}
		matches = append(matches, e.matches(ended, ev.time)...)
	}
	e.watermark, e.waiting, e.runs = w, waiting, e.lasting(runs, w)
	return matches, nil
}

// inWindow are the runs that an event of the moment could go on with.
func (e *Engine) inWindow(runs []run, moment int64) []run {
	return selected(runs, func(r run) bool { return r.age(moment) <= uint64(e.pattern.Window) })
}

// grown are the runs that have the event as their last one, in their order.
func (e *Engine) grown(live []run, ev event) []run {
	var out []run
	for _, r := range slices.Concat(live, []run{beginning(ev)}) {
		for step := range e.pattern.Steps {
			if e.pattern.Leads(r.step, step, ev.kind) {
				out = append(out, r.with(ev, step))
			}
		}
	}
	return arranged(out)
}

func (e *Engine) ableToGoOn(runs []run) []run {
	return selected(runs, func(r run) bool { return e.pattern.GoesOn(r.step) })
}

func (e *Engine) lasting(runs []run, w int64) []run {
	return selected(runs, func(r run) bool { return e.lasts(r, w) })
}

// lasts: an event above the watermark could go on with the run.
func (e *Engine) lasts(r run, w int64) bool {
	return r.age(w) < uint64(e.pattern.Window)
}

func (e *Engine) matches(ended []run, end int64) []api.Match {
	var out []api.Match
	for _, r := range ended {
		if e.pattern.IsLast(r.step) {
			out = append(out, r.match(end))
		}
	}
	return out
}
