package pattern

import "slices"

// BeforeFirst is where something stands that no step has taken an event for yet.
const BeforeFirst = -1

// Has: one of the steps takes events of the kind.
func (p Pattern) Has(kind rune) bool {
	return slices.ContainsFunc(p.Steps, func(s Step) bool { return s.Kind == kind })
}

// Leads: from one step an event may lead to another, which takes it.
func (p Pattern) Leads(from, to int, kind rune) bool {
	if p.Steps[to].Kind != kind {
		return false
	}
	return to == from+1 || to == from && p.Steps[to].Many
}

// GoesOn: an event may be taken behind the step.
func (p Pattern) GoesOn(step int) bool {
	return !p.IsLast(step) || p.Steps[step].Many
}

// IsLast: no step follows.
func (p Pattern) IsLast(step int) bool {
	return step == len(p.Steps)-1
}

// Fits: so many events can be dealt out to the steps up to one, as far as their number goes.
func (p Pattern) Fits(step, events int) bool {
	least := step + 1
	if events <= least {
		return events == least
	}
	return slices.ContainsFunc(p.Steps[:least], func(s Step) bool { return s.Many })
}
