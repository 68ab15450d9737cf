package engine

import "strconv"

// LateError: a moment came that the watermark has passed already.
type LateError struct {
	Moment, Watermark int64
}

func (e LateError) Error() string {
	return "moment " + strconv.FormatInt(e.Moment, 10) + " is late: the watermark is " + strconv.FormatInt(e.Watermark, 10)
}

// FullError: there would be more of something than there may be.
type FullError struct {
	What string
	Max  int
}

func (e FullError) Error() string {
	return "more than " + strconv.Itoa(e.Max) + " " + e.What
}
