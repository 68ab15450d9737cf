package chain

import (
	"bytes"
	"slices"

	"spotter/api"
	"spotter/frame"
)

// place is where a delta looks for the state from which it leads.
type place struct {
	sum    uint32
	within int // deltas
}

// standing keeps the states for which frames stand, in the order of these.
type standing map[place][][]byte

// states are those for which one frame stands within 0, 1, .. deltas; nil, where it stands for none.
type states [api.MaxChain + 1][]byte

// Resolve is the state for which the last frame stands that stands for one within api.MaxChain deltas, and its index; nil and -1, if there is none.
func Resolve(frames [][]byte) ([]byte, int) {
	before := standing{}
	var newest []byte
	at := -1
	for i, f := range frames {
		found := before.statesOf(f)
		before.keep(found)
		if state := found[api.MaxChain]; state != nil {
			newest, at = state, i
		}
	}
	return bytes.Clone(newest), at
}

func (s standing) statesOf(f []byte) states {
	var out states
	if frame.Check(frame.State, f) == nil {
		for within := range out {
			out[within] = f
		}
		return out
	}
	d, err := opened(f)
	if err != nil {
		return out
	}
	for within := 1; within < len(out); within++ {
		out[within] = s.led(d, within-1)
	}
	return out
}

// led is where a delta leads from the last state from which it leads anywhere; nil, if from none.
func (s standing) led(d delta, within int) []byte {
	for _, from := range slices.Backward(s[place{d.from, within}]) {
		if to, err := d.apply(from); err == nil {
			return to
		}
	}
	return nil
}

// keep has each state once at its place, where it was met last: the same one again would only be tried in vain.
func (s standing) keep(found states) {
	for within, state := range found {
		if state == nil {
			continue
		}
		at := place{frame.SumOf(state), within}
		others := slices.DeleteFunc(s[at], func(known []byte) bool { return bytes.Equal(known, state) })
		s[at] = append(others, state)
	}
}
