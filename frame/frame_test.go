package frame

import (
	"bytes"
	"encoding/binary"
	"errors"
	"hash/fnv"
	"math"
	"testing"
)

func edgesOfNumbers() []uint64 {
	out := []uint64{0}
	for bit := range 64 {
		n := uint64(1) << bit
		out = append(out, n-1, n, n+1)
	}
	return append(out, math.MaxUint64-1, math.MaxUint64)
}

// body is what a writer has gathered behind the kind.
func body(write func(w *Writer)) []byte {
	w := NewWriter(State)
	write(w)
	return w.body[1:]
}

func framed(content []byte) []byte {
	return (&Writer{body: append([]byte{State}, content...)}).Frame()
}

// checkFault: the content is refused just there, and nothing comes of it.
func checkFault(t *testing.T, content []byte, at int, read func(*Reader) uint64) {
	t.Helper()
	n, err := Read(State, framed(content), read)
	fault, ok := errors.AsType[BytesError](err)
	if !ok || fault.At != at || n != 0 {
		t.Errorf("%x: %d, %v; want a fault behind byte %d", content, n, err, at)
	}
}

func TestSum(t *testing.T) {
	for _, text := range []string{"", "a", "S", "foobar", "\x00\xff", string(make([]byte, 1000))} {
		h := fnv.New32a()
		h.Write([]byte(text))
		if got := sum([]byte(text)); got != h.Sum32() {
			t.Errorf("sum(%q) = %x; want %x", text, got, h.Sum32())
		}
	}
}

func TestNumbers(t *testing.T) {
	for _, n := range edgesOfNumbers() {
		want := binary.AppendUvarint(nil, n)
		if got := body(func(w *Writer) { w.Number(n) }); !bytes.Equal(got, want) {
			t.Errorf("Number(%d) = %x; want %x", n, got, want)
		}
		if got, err := Read(State, framed(want), (*Reader).Number); got != n || err != nil {
			t.Errorf("reading %x: %d, %v; want %d", want, got, err, n)
		}
	}
}

func TestNumbersThatAreNone(t *testing.T) {
	for _, c := range []struct {
		content string
		at      int
	}{
		{"", 1}, {"\x80", 2}, {"\xff\xff", 3},
		{"\x80\x00", 3}, {"\x81\x00", 3}, {"\x80\x80\x00", 4}, {"\xff\xff\xff\xff\xff\xff\xff\xff\xff\x00", 11},
		{"\xff\xff\xff\xff\xff\xff\xff\xff\xff\x02", 11}, {"\xff\xff\xff\xff\xff\xff\xff\xff\xff\x03", 11}, {"\x80\x80\x80\x80\x80\x80\x80\x80\x80\x7f", 11},
		{"\xff\xff\xff\xff\xff\xff\xff\xff\xff\x81\x00", 11}, {"\x80\x80\x80\x80\x80\x80\x80\x80\x80\x80\x01", 11}, {"\xff\xff\xff\xff\xff\xff\xff\xff\xff\x81", 11},
		{"\x05\x00", 2}, // a number, but not all that is there
	} {
		checkFault(t, []byte(c.content), c.at, (*Reader).Number)
	}
}

func TestMoments(t *testing.T) {
	moments := []int64{math.MinInt64, math.MinInt64 + 1, -1, 0, 1, math.MaxInt64}
	for _, n := range edgesOfNumbers() {
		moments = append(moments, int64(n), -int64(n))
	}
	for _, m := range moments {
		want := binary.AppendVarint(nil, m)
		if got := body(func(w *Writer) { w.Moment(m) }); !bytes.Equal(got, want) {
			t.Errorf("Moment(%d) = %x; want %x", m, got, want)
		}
		if got, err := Read(State, framed(want), (*Reader).Moment); got != m || err != nil {
			t.Errorf("reading %x: %d, %v; want %d", want, got, err, m)
		}
	}
}

func TestTexts(t *testing.T) {
	for _, text := range []string{"", "a", "é\x00\xff", string(make([]byte, 127)), string(make([]byte, 128)), string(make([]byte, 100000))} {
		content := body(func(w *Writer) { w.Text(text) })
		if want := append(binary.AppendUvarint(nil, uint64(len(text))), text...); !bytes.Equal(content, want) {
			t.Errorf("Text(%q) = %x", text, content)
		}
		if got, err := Read(State, framed(content), (*Reader).Text); got != text || err != nil {
			t.Errorf("reading %x: %q, %v", content, got, err)
		}
	}
	length := func(r *Reader) uint64 { return uint64(len(r.Text())) }
	checkFault(t, []byte("\x02a"), 2, length)
	checkFault(t, []byte("\x01"), 2, length)
	checkFault(t, []byte("\x01ab"), 3, length)
	checkFault(t, binary.AppendUvarint(nil, math.MaxUint64), 11, length)
	checkFault(t, binary.AppendUvarint(nil, 1<<63), 11, length)
}

func TestSumsOfOtherFrames(t *testing.T) {
	for _, n := range []uint32{0, 1, 0x01020304, 0x80000000, math.MaxUint32} {
		want := binary.BigEndian.AppendUint32(nil, n)
		if got := body(func(w *Writer) { w.Sum(n) }); !bytes.Equal(got, want) {
			t.Errorf("Sum(%x) = %x", n, got)
		}
		if got, err := Read(State, framed(want), (*Reader).Sum); got != n || err != nil {
			t.Errorf("reading %x: %x, %v", want, got, err)
		}
	}
	read := func(r *Reader) uint64 { return uint64(r.Sum()) }
	checkFault(t, nil, 1, read)
	checkFault(t, []byte{1, 2, 3}, 4, read)
	checkFault(t, []byte{1, 2, 3, 4, 5}, 5, read)
	if got := SumOf([]byte("S\x01\x02\x03\x04")); got != 0x01020304 {
		t.Errorf("SumOf = %x", got)
	}
}

func TestRest(t *testing.T) {
	for _, content := range []string{"", "a", "\x00\xff", "abc"} {
		frame := framed(body(func(w *Writer) { w.Number(7); w.Rest([]byte(content)) }))
		got, err := Read(State, frame, func(r *Reader) string {
			r.Number()
			rest := string(r.Rest())
			if again := r.Rest(); len(again) != 0 {
				t.Errorf("behind the rest there is %q", again)
			}
			return rest
		})
		if got != content || err != nil {
			t.Errorf("the rest is %q, %v; want %q", got, err, content)
		}
	}
}

func TestCheckDoesNotLookInside(t *testing.T) {
	for _, content := range []string{"", "\x80", "anything"} {
		if err := Check(State, framed([]byte(content))); err != nil {
			t.Errorf("%q: %v", content, err)
		}
	}
	good := framed([]byte("abc"))
	for _, frame := range [][]byte{nil, []byte("S"), good[:4], good[1:], good[:len(good)-1], NewWriter(Delta).Frame()} {
		if _, ok := errors.AsType[BytesError](Check(State, frame)); !ok {
			t.Errorf("%x is a frame", frame)
		}
	}
	if err := Check(Delta, NewWriter(Delta).Frame()); err != nil {
		t.Errorf("another kind: %v", err)
	}
}

func TestBelow(t *testing.T) {
	for _, c := range []struct {
		n     uint64
		limit int
		ok    bool
	}{
		{0, 0, false}, {0, 1, true}, {1, 1, false}, {24, 25, true}, {25, 25, false}, {1 << 63, 25, false}, {math.MaxUint64, math.MaxInt, false}, {math.MaxInt - 1, math.MaxInt, true},
	} {
		content := body(func(w *Writer) { w.Number(c.n) })
		got, err := Read(State, framed(content), func(r *Reader) int { return r.Below(c.limit, "too great") })
		if c.ok && (uint64(got) != c.n || err != nil) {
			t.Errorf("%d below %d: %d, %v", c.n, c.limit, got, err)
		}
		if want := (BytesError{At: 1 + len(content), Fault: "too great"}); !c.ok && (got != 0 || err != want) {
			t.Errorf("%d below %d: %d, %v", c.n, c.limit, got, err)
		}
	}
}

func TestReadNeedsAFrameOfTheKind(t *testing.T) {
	good := framed([]byte{7})
	wrong := bytes.Clone(good)
	wrong[len(wrong)-1]++
	for _, frame := range [][]byte{nil, {}, []byte("S"), []byte("Sabc"), []byte{0x81, 0x1c, 0x9d, 0xc5}, (&Writer{}).Frame(), wrong, good[:len(good)-1], append(bytes.Clone(good), 0), NewWriter('T').Frame()} {
		n, err := Read(State, frame, func(*Reader) int {
			t.Errorf("%x was read", frame)
			return 1
		})
		if _, ok := errors.AsType[BytesError](err); !ok || n != 0 {
			t.Errorf("%x: %d, %v", frame, n, err)
		}
	}
	if n, err := Read(State, good, (*Reader).Number); n != 7 || err != nil {
		t.Errorf("%x: %d, %v", good, n, err)
	}
	if _, err := Read('T', NewWriter('T').Frame(), func(*Reader) int { return 0 }); err != nil {
		t.Errorf("another kind: %v", err)
	}
}

func TestNeedEndsTheReading(t *testing.T) {
	_, err := Read(State, framed([]byte{7}), func(r *Reader) int {
		r.Number()
		r.Need(true, "nothing")
		r.Need(false, "a fault")
		t.Error("the reading went on")
		return 1
	})
	if want := (BytesError{At: 2, Fault: "a fault"}); err != want || err.Error() != "behind byte 2: a fault" {
		t.Errorf("the error is %v", err)
	}
}

// A fault of the program is not taken for one of the bytes.
func TestOtherPanicsGoOn(t *testing.T) {
	defer func() {
		if fault := recover(); fault != "of the program" {
			t.Errorf("recovered %v", fault)
		}
	}()
	Read(State, framed(nil), func(*Reader) int { panic("of the program") })
	t.Error("the panic was swallowed")
}

// With some of these lengths there is room for the sum behind what was gathered, with others not.
func TestFramesHaveMemoryOfTheirOwn(t *testing.T) {
	for length := range 40 {
		w := NewWriter(State)
		w.Rest(make([]byte, length))
		first := w.Frame()
		want := bytes.Clone(first)
		first = first[:cap(first)]
		for i := range first {
			first[i] = 0xAA
		}
		if second := w.Frame(); !bytes.Equal(second, want) {
			t.Errorf("the second frame is %x; want %x", second, want)
		}
	}
}
