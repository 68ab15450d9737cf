package frame

import "slices"

// Writer gathers a frame.
type Writer struct {
	body []byte
}

// NewWriter begins a frame of a kind.
func NewWriter(kind byte) *Writer {
	return &Writer{body: []byte{kind}}
}

// Number adds seven bits a byte, the lowest first, in as few bytes as can be.
func (w *Writer) Number(n uint64) {
	for n >= more {
		w.body = append(w.body, byte(n)|more)
		n >>= bitsOfByte
	}
	w.body = append(w.body, byte(n))
}

// Count adds a number that is not below 0.
func (w *Writer) Count(n int) {
	w.Number(uint64(n))
}

// Moment adds a number: even for the moments from 0 on, odd for those below, so that moments near 0 are short.
func (w *Writer) Moment(t int64) {
	n := uint64(t) << 1
	if t < 0 {
		n = ^n
	}
	w.Number(n)
}

// Text adds the number of bytes, and these.
func (w *Writer) Text(text string) {
	w.Count(len(text))
	w.body = append(w.body, text...)
}

// Sum adds the sum of another frame.
func (w *Writer) Sum(n uint32) {
	w.body = appendSum(w.body, n)
}

// Rest adds bytes that go on up to the end of the frame, so that their number need not be told.
func (w *Writer) Rest(bytes []byte) {
	w.body = append(w.body, bytes...)
}

// Frame is what was gathered, with its sum.
func (w *Writer) Frame() []byte {
	return appendSum(slices.Clone(w.body), sum(w.body))
}
