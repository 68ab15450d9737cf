package frame

import "bytes"

const (
	sumStart  = 2166136261
	sumFactor = 16777619
	sumLength = 4
)

// sum is the sum of bytes, as bytes itself.
func sum(of []byte) []byte {
	n := uint32(sumStart)
	for _, b := range of {
		n = (n ^ uint32(b)) * sumFactor
	}
	return []byte{byte(n >> 24), byte(n >> 16), byte(n >> 8), byte(n)}
}

func summed(body, end []byte) bool {
	return bytes.Equal(sum(body), end)
}
