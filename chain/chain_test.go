package chain

import (
	"bytes"
	"errors"
	"math"
	"testing"

	"spotter/api"
	"spotter/frame"
)

func stateOf(content string) []byte {
	w := frame.NewWriter(frame.State)
	w.Rest([]byte(content))
	return w.Frame()
}

func TestErrorsOfApply(t *testing.T) {
	from, to := stateOf("abc"), stateOf("abx")
	d := between(from, to)
	for _, c := range []struct {
		delta delta
		want  error
	}{
		{delta{frame.SumOf(to), d.head, d.tail, d.middle}, OtherError{Wants: frame.SumOf(to), Has: frame.SumOf(from)}},
		{delta{frame.SumOf(to), math.MaxUint64, 2, nil}, OtherError{Wants: frame.SumOf(to), Has: frame.SumOf(from)}},
		{delta{d.from, math.MaxUint64, 2, nil}, FaultError{"more bytes are alike than there are"}},
		{delta{d.from, d.head - 1, d.tail, to[d.head-1:]}, FaultError{"fewer bytes are alike than can be"}},
		{delta{d.from, 0, 0, nil}, frame.BytesError{Fault: "no room for a kind and a sum"}},
		{delta{d.from, d.head, d.tail, nil}, frame.BytesError{Fault: "no room for a kind and a sum"}},
		{delta{d.from, d.head, d.tail, []byte("xyz")}, frame.BytesError{Fault: "a wrong sum"}},
		{delta{d.from, 0, 0, d.frame()}, frame.BytesError{Fault: "another kind"}},
	} {
		got, err := Apply(from, c.delta.frame())
		if got != nil || err != c.want {
			t.Errorf("%v: %x, %v; want %v", c.delta, got, err, c.want)
		}
	}
	if got, err := Apply(from, d.frame()); !bytes.Equal(got, to) || err != nil {
		t.Errorf("%v: %x, %v", d, got, err)
	}
}

func TestErrorsAreTold(t *testing.T) {
	for _, c := range []struct {
		err  error
		want string
	}{
		{OtherError{Wants: 0xabc, Has: 0x12345678}, "a delta of the state abc, not of 12345678"},
		{FaultError{"a fault"}, "a fault"},
	} {
		if got := c.err.Error(); got != c.want {
			t.Errorf("the error is %q; want %q", got, c.want)
		}
	}
}

func TestNoFrames(t *testing.T) {
	state := stateOf("abc")
	for _, call := range []func(a, b []byte) ([]byte, error){Delta, Apply} {
		for _, pair := range [][2][]byte{{nil, state}, {state, nil}, {state[1:], state}, {state, state[1:]}} {
			out, err := call(pair[0], pair[1])
			if _, ok := errors.AsType[frame.BytesError](err); !ok || out != nil {
				t.Errorf("of %x and %x: %x, %v", pair[0], pair[1], out, err)
			}
		}
	}
}

// A state that is met again is kept once, where it was met last.
func TestStatesAreKeptOnce(t *testing.T) {
	one, other := stateOf("one"), stateOf("other")
	before := standing{}
	for range 5 {
		before.keep(before.statesOf(bytes.Clone(one)))
		before.keep(before.statesOf(bytes.Clone(other)))
	}
	for within := range api.MaxChain + 1 {
		for _, state := range [][]byte{one, other} {
			if kept := before[place{frame.SumOf(state), within}]; len(kept) != 1 || !bytes.Equal(kept[0], state) {
				t.Errorf("kept within %d: %x", within, kept)
			}
		}
	}
}

func TestStatesWithinDeltas(t *testing.T) {
	from, to := stateOf("abc"), stateOf("abx")
	before := standing{}
	before.keep(before.statesOf(from))
	found := before.statesOf(between(from, to).frame())
	for within, state := range found {
		if within == 0 && state != nil || within > 0 && !bytes.Equal(state, to) {
			t.Errorf("within %d: %x", within, state)
		}
	}
	for within, state := range before.statesOf(between(to, from).frame()) {
		if state != nil {
			t.Errorf("a delta of another state stands for %x within %d", state, within)
		}
	}
}
