package pattern

import "strconv"

// LongError: the text has more bytes than a pattern may have.
type LongError struct {
	Bytes int
}

func (e LongError) Error() string {
	return "a text of " + strconv.Itoa(e.Bytes) + " bytes is too long for a pattern"
}

// SyntaxError: the text is no pattern; At is the first byte that cannot be of one, or the length of a text that ends too early.
type SyntaxError struct {
	At int
}

func (e SyntaxError) Error() string {
	return "no pattern: fault at byte " + strconv.Itoa(e.At)
}
