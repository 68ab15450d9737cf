// Package frame writes and reads frames: a kind, numbers, moments and texts, and a sum of all that.
package frame

// State is the kind of the frames that hold the state of an engine.
const State = 'S'

const (
	bitsOfByte  = 7
	more        = 1 << bitsOfByte // another byte of the number follows
	longest     = 10              // bytes of a number of 64 bits
	lastOfTenth = 1               // nine bytes leave one bit
)
