package watch

import (
	"spotter/api"
	"spotter/engine"
)

// worker sends the matches that come. While it works, nobody else may use its engine.
type worker struct {
	engine *engine.Engine
	found  chan<- api.Match
	done   <-chan struct{} // closed when no more matches are wanted
}

// work goes on till all events are handed over, or till it is done.
func (w worker) work(events []api.Event, last int64) {
	defer close(w.found)
	for _, ev := range events {
		if w.isDone() {
			return
		}
		if _, err := w.engine.Feed(ev); err != nil {
			continue
		}
		// An event that was taken lies above the watermark: so there is a moment before its own, and it is not below the watermark.
		w.advance(ev.Time - 1)
	}
	w.advance(last)
}

// isDone is asked for each event: where no match comes, nothing is sent, and a long list would be gone through in vain.
func (w worker) isDone() bool {
	select {
	case <-w.done:
		return true
	default:
		return false
	}
}

// advance passes errors over: beside one there are no matches, and the engine is as it was.
func (w worker) advance(moment int64) {
	matches, _ := w.engine.Advance(moment)
	for _, m := range matches {
		select {
		case w.found <- m:
		case <-w.done:
			return
		}
	}
}
