package frame

// Reader goes through what is in a frame. Where the bytes are not what is asked for, its methods do not return: they panic with a BytesError, which Read recovers.
type Reader struct {
	body []byte // without the sum
	at   int
}

// Read hands the content of a frame of a kind to a function that must use it up, and gives what that makes of it. Its error is BytesError.
func Read[T any](kind byte, frame []byte, read func(*Reader) T) (out T, err error) {
	defer func() {
		switch fault := recover().(type) {
		case nil:
		case BytesError:
			err = fault
		default:
			panic(fault) // no fault of the bytes, but one of the program
		}
	}()
	r := open(kind, frame)
	found := read(r)
	r.Need(r.at == len(r.body), "bytes follow")
	return found, nil
}

// Check tells whether bytes are a frame of a kind, whatever is in it. Its error is BytesError.
func Check(kind byte, frame []byte) error {
	_, err := Read(kind, frame, (*Reader).Rest)
	return err
}

// open begins behind the kind.
func open(kind byte, frame []byte) *Reader {
	r := &Reader{}
	end := len(frame) - sumLength
	r.Need(end > 0, "no room for a kind and a sum")
	r.Need(frame[0] == kind, "another kind")
	r.Need(sum(frame[:end]) == SumOf(frame), "a wrong sum")
	r.body, r.at = frame[:end], 1
	return r
}

// Need ends the reading, if something does not hold.
func (r *Reader) Need(holds bool, fault string) {
	if !holds {
		panic(BytesError{At: r.at, Fault: fault})
	}
}

// Number reads a number in as few bytes as can be.
func (r *Reader) Number() uint64 {
	var n uint64
	for i := range longest {
		b := r.next()
		n |= uint64(b&^more) << (i * bitsOfByte)
		if b < more {
			r.Need(b > 0 || i == 0, "a number with more bytes than it needs")
			r.Need(i < longest-1 || b <= lastOfTenth, "a number of more than 64 bits")
			return n
		}
	}
	r.Need(false, "a number of more than 64 bits")
	return 0
}

func (r *Reader) next() byte {
	r.Need(r.at < len(r.body), "too few bytes")
	b := r.body[r.at]
	r.at++
	return b
}

// Below reads a number that must be below a limit.
func (r *Reader) Below(limit int, fault string) int {
	n := r.Number()
	r.Need(n < uint64(limit), fault)
	return int(n)
}

// Moment reads what the Moment of Writer adds.
func (r *Reader) Moment() int64 {
	n := r.Number()
	t := int64(n >> 1)
	if n&1 == 1 {
		t = ^t
	}
	return t
}

// Text reads a number of bytes, and these.
func (r *Reader) Text() string {
	length := r.Number()
	rest := r.body[r.at:]
	r.Need(length <= uint64(len(rest)), "too few bytes")
	r.at += int(length)
	return string(rest[:length])
}

// Sum reads the sum of another frame.
func (r *Reader) Sum() uint32 {
	var bytes [sumLength]byte
	for i := range bytes {
		bytes[i] = r.next()
	}
	return sumIn(bytes[:])
}

// Rest is all that was not read so far. It lies in the frame itself.
func (r *Reader) Rest() []byte {
	rest := r.body[r.at:]
	r.at = len(r.body)
	return rest
}
