// Package spotter: patterns in streams of events: see DOC.md.
package spotter

import (
	"spotter/api"
	"spotter/engine"
	"spotter/pattern"
	"spotter/watch"
)

// Parse writes a pattern canonically (P3).
func Parse(text string) (string, api.Errno) {
	p, err := pattern.Parse(text)
	if err != nil {
		return "", number(err)
	}
	return p.String(), api.OK
}

// Engine looks for the matches of a pattern.
type Engine struct {
	inner *engine.Engine
}

// New is an engine of a pattern (P4).
func New(pattern string) (*Engine, api.Errno) {
	inner, err := engineOf(pattern)
	if err != nil {
		return nil, number(err)
	}
	return &Engine{inner: inner}, api.OK
}

func engineOf(text string) (*engine.Engine, error) {
	p, err := pattern.Parse(text)
	if err != nil {
		return nil, err
	}
	return engine.New(p), nil
}

// Feed hands an event over: its offset (P5).
func (e *Engine) Feed(ev api.Event) (int, api.Errno) {
	offset, err := e.inner.Feed(ev)
	return offset, number(err)
}

// Advance tells that no event up to a moment will come any more: the matches that are complete (P6 to P8).
func (e *Engine) Advance(w int64) ([]api.Match, api.Errno) {
	matches, err := e.inner.Advance(w)
	return matches, number(err)
}

// Save is the engine's state as a frame (P9).
func (e *Engine) Save() []byte {
	return e.inner.Save()
}

// Watch hands events over and advances, till stop matches have come (P15).
func Watch(pattern string, events []api.Event, last int64, stop int) ([]api.Match, api.Errno) {
	inner, err := engineOf(pattern)
	if err != nil {
		return nil, number(err)
	}
	return watch.Matches(inner, events, last, stop), api.OK
}
