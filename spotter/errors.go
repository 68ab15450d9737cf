package spotter

import (
	"errors"

	"spotter/api"
	"spotter/chain"
	"spotter/engine"
	"spotter/frame"
	"spotter/pattern"
)

// number is what a call answers for an error of the packages behind it.
func number(err error) api.Errno {
	switch {
	case err == nil:
		return api.OK
	case is[pattern.LongError](err):
		return api.ErrLong
	case is[engine.LateError](err):
		return api.ErrLate
	case is[engine.FullError](err):
		return api.ErrFull
	case is[frame.BytesError](err), is[chain.FaultError](err):
		return api.ErrBytes
	case is[chain.OtherError](err):
		return api.ErrChain
	}
	return api.ErrPattern
}

func is[E error](err error) bool {
	var e E
	return errors.As(err, &e)
}
