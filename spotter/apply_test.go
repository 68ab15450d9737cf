package spotter_test

import (
	"bytes"
	"math"
	"math/rand"
	"strings"
	"testing"

	"spotter/api"
	"spotter/spotter"
)

func checkApply(t *testing.T, from, d, want []byte, wantErrno api.Errno) {
	t.Helper()
	got, errno := spotter.Apply(from, d)
	if !bytes.Equal(got, want) || errno != wantErrno || (got == nil) != (wantErrno != api.OK) {
		t.Errorf("Apply(%x, %x) = %x, %d; want %x, %d", from, d, got, errno, want, wantErrno)
	}
}

// numbersThatAreNone, or one alone.
func numbersThatAreNone() []string {
	return []string{
		"", "\x00", "\x07", "\x80", "\xff\xff", "\x00\x80", "\x80\x01",
		"\x80\x00\x00", "\x00\x80\x00", "\x81\x00\x00", "\x00\x81\x00", "\x80\x80\x00\x00", "\x00\x80\x80\x00", // a byte more than it needs
		"\xff\xff\xff\xff\xff\xff\xff\xff\xff\x00\x00", "\x00\xff\xff\xff\xff\xff\xff\xff\xff\xff\x00",
		"\xff\xff\xff\xff\xff\xff\xff\xff\xff\x02\x00", "\x00\xff\xff\xff\xff\xff\xff\xff\xff\xff\x02", // more than 64 bits
		"\x80\x80\x80\x80\x80\x80\x80\x80\x80\x7f\x00", "\x00\x80\x80\x80\x80\x80\x80\x80\x80\x80\x02",
		"\x80\x80\x80\x80\x80\x80\x80\x80\x80\x80\x01\x00", "\x00\x80\x80\x80\x80\x80\x80\x80\x80\x80\x80\x01",
		strings.Repeat("\x80", 30) + "\x01\x00", strings.Repeat("\x80", 30), strings.Repeat("\xff", 100),
	}
}

func TestP13NumbersThatAreNone(t *testing.T) {
	from := stateOf("abc")
	for _, sum := range []string{string(from[len(from)-4:]), "1234", "\x00\x00\x00\x00"} {
		for _, numbers := range numbersThatAreNone() {
			checkApply(t, from, sealed([]byte("D"+sum+numbers)), nil, api.ErrBytes)
			checkApply(t, from, sealed([]byte("D"+sum+numbers+"\x80")), nil, api.ErrBytes)
		}
	}
}

func TestP13FewerThanFourBytes(t *testing.T) {
	from := stateOf("abc")
	sum := string(from[len(from)-4:])
	for length := range 4 {
		checkApply(t, from, sealed([]byte("D"+sum[:length])), nil, api.ErrBytes)
		checkApply(t, from, sealed([]byte("D"+"\x00\x00\x00"[:min(length, 3)])), nil, api.ErrBytes)
	}
	checkApply(t, from, sealed([]byte("D"+sum)), nil, api.ErrBytes)
	checkApply(t, from, sealed([]byte("D"+sum+"\x08")), nil, api.ErrBytes)
	checkApply(t, from, sealed([]byte("D"+sum+"\x08\x00")), from, api.OK)
}

func TestP13NoFrames(t *testing.T) {
	from, to := stateOf("abc"), stateOf("abx")
	d := delta(t, from, to)
	for _, odd := range oddStates() {
		checkApply(t, odd, d, nil, api.ErrBytes)
		checkApply(t, odd, odd, nil, api.ErrBytes)
		if len(odd) >= 4 {
			checkApply(t, odd, deltaOf(odd, 0, 0, nil), nil, api.ErrBytes)
			checkApply(t, odd, deltaOf(odd, uint64(len(odd)), 0, nil), nil, api.ErrBytes)
		}
	}
	checkApply(t, from, from, nil, api.ErrBytes)
	odd := [][]byte{nil, {}, []byte("D"), d[:4], d[:5], {0x81, 0x1c, 0x9d, 0xc5}, sealed(nil), sealed([]byte("D")), d[1:], d[:len(d)-1], append(bytes.Clone(d), 0), append([]byte{0}, d...)}
	for _, kind := range "STd\x00" {
		odd = append(odd, sealed(append([]byte(string(kind)), d[1:len(d)-4]...)))
	}
	for i := range d {
		wrong := bytes.Clone(d)
		wrong[i] ^= 0x40
		odd = append(odd, wrong)
	}
	for _, d := range odd {
		checkApply(t, from, d, nil, api.ErrBytes)
		checkApply(t, to, d, nil, api.ErrBytes)
		checkApply(t, d, d, nil, api.ErrBytes)
	}
	checkApply(t, from, d, to, api.OK)
}

// A kind, a sum or numbers that are wrong go before another state; that goes before numbers that are too great.
func TestP13TheErrorNamedFirst(t *testing.T) {
	from, to, third := stateOf("abc"), stateOf("abx"), stateOf("xyz")
	d := delta(t, from, to)
	checkApply(t, third, d, nil, api.ErrChain)
	checkApply(t, to, d, nil, api.ErrChain)
	// no delta of any state
	checkApply(t, third, d[:len(d)-1], nil, api.ErrBytes)
	wrong := bytes.Clone(d)
	wrong[len(wrong)-1]++
	checkApply(t, third, wrong, nil, api.ErrBytes)
	checkApply(t, third, sealed(append([]byte("S"), d[1:len(d)-4]...)), nil, api.ErrBytes)
	// no state
	checkApply(t, third[1:], d, nil, api.ErrBytes)
	checkApply(t, sealed([]byte("T")), d, nil, api.ErrBytes)
	// what of a delta of the state itself would be ErrBytes
	for _, c := range []struct {
		head, tail uint64
		middle     string
	}{
		{math.MaxUint64, 0, ""}, {0, math.MaxUint64, ""}, {math.MaxUint64, math.MaxUint64, ""}, {math.MaxUint64, 1, ""}, {9, 0, ""}, {5, 4, ""},
		{0, 0, ""}, {0, 0, string(to)}, {2, 0, string(to[2:])}, {3, 0, "anything"}, {8, 0, ""},
	} {
		checkApply(t, third, deltaOf(from, c.head, c.tail, []byte(c.middle)), nil, api.ErrChain)
	}
	// each byte of the sum counts
	for i := range 4 {
		for _, change := range []byte{1, 0x80} {
			other := bytes.Clone(d[:len(d)-4])
			other[1+i] ^= change
			checkApply(t, from, sealed(other), nil, api.ErrChain)
		}
	}
}

func TestP13MoreBytesThanThereAre(t *testing.T) {
	from := stateOf("abc")
	length := uint64(len(from))
	for _, c := range [][2]uint64{
		{length + 1, 0}, {0, length + 1}, {length, 1}, {1, length}, {length, length}, {length - 1, 2}, {4, length - 3}, {length + 1, length + 1},
		{math.MaxUint64, 0}, {0, math.MaxUint64}, {math.MaxUint64, 1}, {1, math.MaxUint64}, {math.MaxUint64, 2}, {2, math.MaxUint64}, {math.MaxUint64, length + 1}, {length + 1, math.MaxUint64},
		{math.MaxUint64, math.MaxUint64}, {1 << 63, 1 << 63}, {1<<63 + 4, 1<<63 + 4}, {1 << 63, 1<<63 + length}, {math.MaxInt64, 1}, {math.MaxInt64, math.MaxInt64}, {1 << 32, 1 << 32}, {1 << 32, 0}, {0, 1<<32 + length}, {1<<32 + length, 0},
	} {
		for _, middle := range []string{"", "a", string(from)} {
			checkApply(t, from, deltaOf(from, c[0], c[1], []byte(middle)), nil, api.ErrBytes)
		}
	}
}

// The two numbers may be as many as there are bytes.
func TestP13JustAsManyBytesAsThereAre(t *testing.T) {
	from := stateOf("abc")
	length := uint64(len(from))
	checkApply(t, from, deltaOf(from, length, 0, nil), from, api.OK)
	inserted := loop("ab", 'x')
	short, long := stateOf("abc"), stateOf("ab"+inserted+"c")
	checkApply(t, short, deltaOf(short, 3, length-3, []byte(inserted)), long, api.OK)
	// one more, though what comes of it is a frame
	content := "ab" + inserted
	from, to := stateOf(content+"c"), stateOf(content+inserted+"c")
	head, tail := uint64(1+len(content)), uint64(1+4)
	checkApply(t, from, deltaOf(from, head, tail, []byte(inserted)), to, api.OK)
	checkApply(t, from, deltaOf(from, head, tail+uint64(len(inserted)), nil), nil, api.ErrBytes)
}

func TestP13NoFrameComesOfIt(t *testing.T) {
	from, to := stateOf("abc"), stateOf("abx")
	wrong := bytes.Clone(to[3:])
	wrong[len(wrong)-1] ^= 1
	for _, c := range []struct {
		head, tail uint64
		middle     []byte
	}{
		{3, 0, wrong}, {3, 0, nil}, {0, 0, nil}, {1, 0, nil}, {4, 0, nil}, {0, 4, nil}, {0, 5, []byte("S")}, {8, 0, []byte("x")}, {3, 5, []byte("x")}, {4, 4, []byte("x")},
		{0, 0, sealed([]byte("Tabc"))}, {0, 0, sealed([]byte("D"))}, {0, 0, sealed(nil)}, {0, 0, from[:4]}, {0, 0, delta(t, from, to)},
	} {
		checkApply(t, from, deltaOf(from, c.head, c.tail, c.middle), nil, api.ErrBytes)
	}
}

// All of these lead to a state, but by another delta than that of the two.
func TestP13FewerBytesAlikeThanCanBe(t *testing.T) {
	for _, c := range []struct{ from, to []byte }{
		{stateOf("abc"), stateOf("abx")}, {stateOf("abc"), stateOf("abc")}, {stateOf("abc"), stateOf("")}, {stateOf(""), stateOf("abc")},
		{stateOf("abcde" + "rest"), stateOf(twin("abcde") + "rest")}, {stateOf("abccc"), stateOf("ab" + loop("ab", 'c') + "ccc")}, {stateOf("ab" + loop("ab", 'c') + "ccc"), stateOf("abccc")},
		{sealed(append(stateOf("ab"), 'x')), stateOf("ab")},
	} {
		best, _ := modelDelta(c.from, c.to)
		tried := 0
		for head := 0; head <= min(len(c.from), len(c.to)) && bytes.HasPrefix(c.to, c.from[:head]); head++ {
			for tail := 0; tail <= min(len(c.from), len(c.to))-head && bytes.HasSuffix(c.to, c.from[len(c.from)-tail:]); tail++ {
				d := deltaOf(c.from, uint64(head), uint64(tail), c.to[head:len(c.to)-tail])
				if bytes.Equal(d, best) {
					checkApply(t, c.from, d, c.to, api.OK)
					continue
				}
				tried++
				checkApply(t, c.from, d, nil, api.ErrBytes)
			}
		}
		if tried == 0 {
			t.Errorf("no other delta from %x to %x", c.from, c.to)
		}
	}
}

// Two states may have one sum: a delta of the one then leads from the other, if what comes of it is a state, and its own delta that.
func TestP13AnotherStateWithTheSum(t *testing.T) {
	first := "abcde"
	second := twin(first)
	one, other := stateOf(first+"x"), stateOf(second+"x")
	if frameSum(one) != frameSum(other) || bytes.Equal(one, other) {
		t.Fatalf("%x and %x have not one sum", one, other)
	}
	d := delta(t, one, stateOf(first+"y"))
	checkApply(t, one, d, stateOf(first+"y"), api.OK)
	checkApply(t, other, d, stateOf(second+"y"), api.OK)
	d = delta(t, one, stateOf("x"+first))
	checkApply(t, one, d, stateOf("x"+first), api.OK)
	checkApply(t, other, d, stateOf("x"+first), api.OK)
	// more is alike than the delta says
	d = delta(t, one, other)
	checkApply(t, one, d, other, api.OK)
	checkApply(t, other, d, nil, api.ErrBytes)
	// a piece of the first is missing in the other
	d = delta(t, one, stateOf(first[:3]+"y"))
	checkApply(t, one, d, stateOf(first[:3]+"y"), api.OK)
	checkApply(t, other, d, nil, api.ErrBytes)
}

func frameSum(frame []byte) string { return string(frame[len(frame)-4:]) }

// Saves of one engine, one behind the other: each delta leads to the next one, and from no other.
func TestP13DeltasOfEngines(t *testing.T) {
	random := rand.New(rand.NewSource(22))
	for i := range 400 {
		text := randomPattern(random)
		e := newEngine(t, text)
		saves := [][]byte{e.Save()}
		for _, a := range randomActs(random, starts()[i%len(starts())], 20) {
			a.on(e)
			saves = append(saves, e.Save())
		}
		for at := 1; at < len(saves); at++ {
			from, to := saves[at-1], saves[at]
			d := delta(t, from, to)
			want, _ := modelDelta(from, to)
			if !bytes.Equal(d, want) {
				t.Fatalf("Delta(%x, %x) = %x; want %x", from, to, d, want)
			}
			checkApply(t, from, d, to, api.OK)
			for _, third := range saves {
				if frameSum(third) != frameSum(from) {
					checkApply(t, third, d, nil, api.ErrChain)
				}
			}
		}
	}
}
