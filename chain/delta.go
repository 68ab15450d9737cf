// Package chain leads from one state to another by deltas, and finds the newest state of a list of both. States are frames here: what is in them does not matter.
package chain

import (
	"slices"

	"spotter/frame"
)

// delta is what is in a frame of the kind frame.Delta.
type delta struct {
	from       uint32 // the sum of the state from which it leads
	head, tail uint64 // how many bytes both states begin and end with
	middle     []byte
}

// Delta is a frame of what leads from one state to another. Its error is frame.BytesError.
func Delta(from, to []byte) ([]byte, error) {
	if err := frame.Check(frame.State, from); err != nil {
		return nil, err
	}
	if err := frame.Check(frame.State, to); err != nil {
		return nil, err
	}
	return between(from, to).frame(), nil
}

// between looks for the end only behind the beginning, so that no byte is in both.
func between(from, to []byte) delta {
	head := alike(from, to)
	tail := alikeAtEnd(from[head:], to[head:])
	return delta{
		from:   frame.SumOf(from),
		head:   uint64(head),
		tail:   uint64(tail),
		middle: to[head : len(to)-tail],
	}
}

func alike(a, b []byte) int {
	n := 0
	for n < min(len(a), len(b)) && a[n] == b[n] {
		n++
	}
	return n
}

func alikeAtEnd(a, b []byte) int {
	n := 0
	for n < min(len(a), len(b)) && a[len(a)-1-n] == b[len(b)-1-n] {
		n++
	}
	return n
}

func (d delta) frame() []byte {
	w := frame.NewWriter(frame.Delta)
	w.Sum(d.from)
	w.Number(d.head)
	w.Number(d.tail)
	w.Rest(d.middle)
	return w.Frame()
}

// opened is the delta in a frame, where it is one. Its error is frame.BytesError.
func opened(bytes []byte) (delta, error) {
	return frame.Read(frame.Delta, bytes, readDelta)
}

func readDelta(r *frame.Reader) delta {
	var d delta
	d.from = r.Sum()
	d.head = r.Number()
	d.tail = r.Number()
	d.middle = r.Rest()
	return d
}

// Apply is the state to which a delta leads from another one. Its errors are frame.BytesError, OtherError and FaultError.
func Apply(from, bytes []byte) ([]byte, error) {
	if err := frame.Check(frame.State, from); err != nil {
		return nil, err
	}
	d, err := opened(bytes)
	if err != nil {
		return nil, err
	}
	return d.apply(from)
}

func (d delta) apply(from []byte) ([]byte, error) {
	if sum := frame.SumOf(from); sum != d.from {
		return nil, OtherError{Wants: d.from, Has: sum}
	}
	if !d.fits(len(from)) {
		return nil, FaultError{"more bytes are alike than there are"}
	}
	to := slices.Concat(from[:d.head], d.middle, from[uint64(len(from))-d.tail:])
	if err := frame.Check(frame.State, to); err != nil {
		return nil, err
	}
	if best := between(from, to); best.head != d.head || best.tail != d.tail {
		return nil, FaultError{"fewer bytes are alike than can be"}
	}
	return to, nil
}

// fits does not add the two numbers: that might go around.
func (d delta) fits(length int) bool {
	all := uint64(length)
	return d.head <= all && d.tail <= all-d.head
}
