package spotter

import (
	"errors"

	"spotter/api"
	"spotter/pattern"
)

// patternNumber is the number that a call answers for an error of pattern.Parse.
func patternNumber(err error) api.Errno {
	var long pattern.LongError
	if errors.As(err, &long) {
		return api.ErrLong
	}
	return api.ErrPattern
}
