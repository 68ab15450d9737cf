// Package pattern reads the texts of patterns and writes patterns canonically.
package pattern

import (
	"strconv"
	"strings"

	"spotter/api"
)

// Step asks for an event of a kind.
type Step struct {
	Kind rune
	Many bool // more events of the kind may follow the first
}

// Pattern is what a text asks for: steps in their order, and a window.
type Pattern struct {
	Steps  []Step
	Window int64
}

// Parse reads a text. Its errors are LongError and SyntaxError.
func Parse(text string) (Pattern, error) {
	if len(text) > api.MaxText {
		return Pattern{}, LongError{Bytes: len(text)}
	}
	var r reader
	// Bytes that are no UTF-8 come as U+FFFD, which no pattern has: they need no check of their own.
	for at, c := range text {
		if !r.take(c) {
			return Pattern{}, SyntaxError{At: at}
		}
	}
	if !r.complete() {
		return Pattern{}, SyntaxError{At: len(text)}
	}
	return r.found, nil
}

// String is the canonical text.
func (p Pattern) String() string {
	var out strings.Builder
	for _, s := range p.Steps {
		out.WriteRune(s.Kind)
		if s.Many {
			out.WriteByte('+')
		}
		out.WriteByte(' ')
	}
	out.WriteString("/ ")
	out.WriteString(strconv.FormatInt(p.Window, 10))
	return out.String()
}
