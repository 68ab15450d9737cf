// Package spotter: patterns in streams of events: see DOC.md.
package spotter

import (
	"spotter/api"
	"spotter/pattern"
)

// Parse writes a pattern canonically (P3).
func Parse(text string) (string, api.Errno) {
	p, err := pattern.Parse(text)
	if err != nil {
		return "", patternNumber(err)
	}
	return p.String(), api.OK
}

// Engine looks for the matches of a pattern.
type Engine struct{}

// New is an engine of a pattern (P4).
func New(pattern string) (*Engine, api.Errno) { return nil, api.OK }

// Feed hands an event over: its offset (P5).
func (e *Engine) Feed(ev api.Event) (int, api.Errno) { return 0, api.OK }

// Advance tells that no event up to a moment will come any more: the matches that are complete (P6 to P8).
func (e *Engine) Advance(w int64) ([]api.Match, api.Errno) { return nil, api.OK }

// Save is the engine's state as a frame (P9).
func (e *Engine) Save() []byte { return nil }

// Watch hands events over and advances, till stop matches have come (P15).
func Watch(pattern string, events []api.Event, last int64, stop int) ([]api.Match, api.Errno) {
	return nil, api.OK
}
