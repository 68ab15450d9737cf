package frame

import "strconv"

// BytesError: the bytes are no frame of the kind that was asked for, or not with such things in it.
type BytesError struct {
	At    int // how many bytes had been read
	Fault string
}

func (e BytesError) Error() string {
	return "behind byte " + strconv.Itoa(e.At) + ": " + e.Fault
}
