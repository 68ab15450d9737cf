package pattern

import (
	"unicode"

	"spotter/api"
)

// place is where in the text a reader stands: it decides which runes may come next.
type place int

const (
	betweenSteps place = iota // at the beginning, too
	behindLetter
	behindPlus
	beforeWindow
	inWindow
	behindWindow
)

// reader gathers a pattern rune by rune.
type reader struct {
	place place
	found Pattern
}

// take goes on by a rune; false, if no pattern has it at this place.
func (r *reader) take(c rune) bool {
	switch r.place {
	case betweenSteps, behindLetter, behindPlus:
		return r.takeOfSteps(c)
	}
	return r.takeOfWindow(c)
}

func (r *reader) takeOfSteps(c rune) bool {
	switch {
	case c == ' ':
		r.place = betweenSteps
		return true
	case c == '+':
		return r.addPlus()
	case c == '/':
		r.place = beforeWindow
		return len(r.found.Steps) > 0
	case unicode.IsLetter(c):
		return r.addStep(c)
	}
	return false
}

func (r *reader) addStep(kind rune) bool {
	if r.place != betweenSteps || len(r.found.Steps) == api.MaxSteps {
		return false
	}
	r.found.Steps = append(r.found.Steps, Step{Kind: kind})
	r.place = behindLetter
	return true
}

func (r *reader) addPlus() bool {
	if r.place != behindLetter {
		return false
	}
	r.found.Steps[len(r.found.Steps)-1].Many = true
	r.place = behindPlus
	return true
}

func (r *reader) takeOfWindow(c rune) bool {
	switch {
	case c == ' ':
		if r.place == inWindow {
			r.place = behindWindow
		}
		return true
	// Not unicode.IsDigit: the digits of other scripts make no window.
	case '0' <= c && c <= '9':
		return r.addDigit(int64(c - '0'))
	}
	return false
}

func (r *reader) addDigit(digit int64) bool {
	if r.place == behindWindow {
		return false
	}
	noughtInFront := r.place == inWindow && r.found.Window == 0
	if noughtInFront {
		return false
	}
	r.place = inWindow
	r.found.Window = r.found.Window*10 + digit
	return r.found.Window <= api.MaxWindow
}

// complete: the text may end here.
func (r *reader) complete() bool {
	return r.place == inWindow || r.place == behindWindow
}
