package chain

import "strconv"

// OtherError: the delta leads from another state.
type OtherError struct {
	Wants, Has uint32 // the sums
}

func (e OtherError) Error() string {
	return "a delta of the state " + hex(e.Wants) + ", not of " + hex(e.Has)
}

func hex(sum uint32) string {
	return strconv.FormatUint(uint64(sum), 16)
}

// FaultError: the delta leads from that state, but is none that Delta makes.
type FaultError struct {
	Fault string
}

func (e FaultError) Error() string {
	return e.Fault
}
