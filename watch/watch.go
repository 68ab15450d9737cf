// Package watch hands a list of events over to an engine and gathers the matches that come.
package watch

import (
	"sync"

	"spotter/api"
	"spotter/engine"
)

// Matches are the first ones that come while events are handed over, each with an advance up to the moment before its own, and by an advance up to last behind them: at most stop. The engine is the caller's again when the call answers.
func Matches(e *engine.Engine, events []api.Event, last int64, stop int) []api.Match {
	if stop < 1 {
		return nil
	}
	found, done := make(chan api.Match), make(chan struct{})
	var ended sync.WaitGroup
	ended.Add(1)
	go func() {
		defer ended.Done()
		worker{engine: e, found: found, done: done}.work(events, last)
	}()
	matches := firstOf(found, stop)
	// Nobody receives any more: the worker has no choice but to see that it is done.
	close(done)
	ended.Wait()
	return matches
}

func firstOf(found <-chan api.Match, stop int) []api.Match {
	var out []api.Match
	for m := range found {
		out = append(out, m)
		if len(out) == stop {
			break
		}
	}
	return out
}
