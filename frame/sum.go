package frame

const (
	sumStart  = 2166136261
	sumFactor = 16777619
	sumLength = 4
)

func sum(of []byte) uint32 {
	n := uint32(sumStart)
	for _, b := range of {
		n = (n ^ uint32(b)) * sumFactor
	}
	return n
}

// SumOf is the sum with which a frame ends.
func SumOf(frame []byte) uint32 {
	return sumIn(frame[len(frame)-sumLength:])
}

func sumIn(bytes []byte) uint32 {
	var n uint32
	for _, b := range bytes {
		n = n<<8 | uint32(b)
	}
	return n
}

func appendSum(to []byte, n uint32) []byte {
	return append(to, byte(n>>24), byte(n>>16), byte(n>>8), byte(n))
}
