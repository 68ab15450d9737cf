package engine

import (
	"cmp"
	"slices"

	"spotter/api"
	"spotter/pattern"
)

// run is a list of processed events that the pattern's steps up to one can be given.
type run struct {
	step    int
	offsets []int // never written into: a run may be kept by several lists of runs
	first   int64 // the moment of the first event
}

// order tells by its sign which of two runs goes first, as cmp.Compare does.
type order func(a, b run) int

func byOffsets(a, b run) int { return slices.Compare(a.offsets, b.offsets) }

func byStep(a, b run) int { return cmp.Compare(a.step, b.step) }

// inTurn is the order in which a later one decides only where all ahead of it see no difference.
func inTurn(orders ...order) order {
	return func(a, b run) int {
		for _, compare := range orders {
			if c := compare(a, b); c != 0 {
				return c
			}
		}
		return 0
	}
}

// runOrder is the order of runs: those between which it sees no difference are the same.
func runOrder() order {
	return inTurn(byOffsets, byStep)
}

// arranged puts runs in their order and leaves the first of those that are the same.
func arranged(runs []run) []run {
	compare := runOrder()
	slices.SortStableFunc(runs, compare)
	return slices.CompactFunc(runs, func(a, b run) bool { return compare(a, b) == 0 })
}

// beginning is what the first event of a run is added to.
func beginning(ev event) run {
	return run{step: pattern.BeforeFirst, first: ev.time}
}

func (r run) with(ev event, step int) run {
	return run{step: step, offsets: slices.Concat(r.offsets, []int{ev.offset}), first: r.first}
}

// age is how far a moment lies behind the first event. It may need all 64 bits, which a difference of int64 has not.
func (r run) age(moment int64) uint64 {
	return uint64(moment) - uint64(r.first)
}

// match has a list of its own: the run may go on.
func (r run) match(end int64) api.Match {
	return api.Match{Offsets: slices.Clone(r.offsets), End: end}
}

// selected makes a new list, so that the one it is taken from stays as it is.
func selected(runs []run, keep func(run) bool) []run {
	var out []run
	for _, r := range runs {
		if keep(r) {
			out = append(out, r)
		}
	}
	return out
}
