// Package frame writes and reads frames: a kind, what is in it, and a sum of all that.
package frame

// The kinds of frames.
const (
	State = 'S' // the state of an engine
	Delta = 'D' // what leads from one state to another
)

const (
	bitsOfByte  = 7
	more        = 1 << bitsOfByte // another byte of the number follows
	longest     = 10              // bytes of a number of 64 bits
	lastOfTenth = 1               // nine bytes leave one bit
)
