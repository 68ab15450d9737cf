package spotter_test

import (
	"bytes"
	"encoding/hex"
	"math/rand"
	"strings"
	"sync"
	"testing"

	"spotter/api"
	"spotter/spotter"
)

func delta(t *testing.T, from, to []byte) []byte {
	t.Helper()
	d, errno := spotter.Delta(from, to)
	if len(d) == 0 || errno != api.OK {
		t.Fatalf("Delta(%x, %x) = %x, %d", from, to, d, errno)
	}
	return d
}

// checkDelta: these are the numbers and the bytes between, and Apply leads to the other state by them.
func checkDelta(t *testing.T, from, to []byte, head, tail uint64, middle string) {
	t.Helper()
	want := deltaOf(from, head, tail, []byte(middle))
	if got := delta(t, from, to); !bytes.Equal(got, want) {
		t.Errorf("Delta(%x, %x) = %x; want %x", from, to, got, want)
	}
	checkApply(t, from, want, to, api.OK)
}

func checkNoDelta(t *testing.T, from, to []byte) {
	t.Helper()
	if d, errno := spotter.Delta(from, to); d != nil || errno != api.ErrBytes {
		t.Errorf("Delta(%x, %x) = %x, %d", from, to, d, errno)
	}
}

func unhex(t *testing.T, text string) []byte {
	t.Helper()
	out, err := hex.DecodeString(strings.ReplaceAll(text, " ", ""))
	if err != nil {
		t.Fatal(err)
	}
	return out
}

// oddStates are no frames of the kind S with a right sum.
func oddStates() [][]byte {
	good := stateOf("abc")
	out := [][]byte{nil, {}, []byte("S"), good[:4], {0x81, 0x1c, 0x9d, 0xc5}, []byte("Sabcd"), sealed(nil), sealed([]byte("D")), sealed([]byte("T")), sealed([]byte("s")),
		sealed([]byte("Dabc")), sealed([]byte("Tabc")), sealed([]byte("\x00Sabc")), good[1:], good[:len(good)-1], append(bytes.Clone(good), 0), append([]byte{0}, good...)}
	for i := range good {
		for _, change := range []byte{1, 0x80} {
			wrong := bytes.Clone(good)
			wrong[i] ^= change
			out = append(out, wrong)
		}
	}
	backward := bytes.Clone(good)
	for i := range 4 {
		backward[len(good)-1-i] = good[len(good)-4+i]
	}
	return append(out, backward)
}

func TestP12ByteByByte(t *testing.T) {
	for _, c := range []struct{ from, to, want string }{
		{"53 61626364 99491806", "53 61786364 a5d1055c", "44 99491806 02 00 786364a5d1055c 7a2a54b7"},
		{"53 61626364 99491806", "53 61626364 99491806", "44 99491806 09 00 75fa353a"},
		{"53 d60c1322", "53 00 17021e86", "44 d60c1322 01 00 0017021e86 c92e2d8a"},
		{"53 d60c1322", "53 d60c1322", "44 d60c1322 05 00 c35e9b29"},
	} {
		from, to, want := unhex(t, c.from), unhex(t, c.to), unhex(t, c.want)
		if got := delta(t, from, to); !bytes.Equal(got, want) {
			t.Errorf("Delta(%x, %x) = %x; want %x", from, to, got, want)
		}
		checkApply(t, from, want, to, api.OK)
	}
}

func TestP12TheSame(t *testing.T) {
	for _, content := range []string{"", "a", "\x00", "aaaaaaaa", strings.Repeat("ab", 61), strings.Repeat("ab", 62), strings.Repeat("x", 20000)} {
		state := stateOf(content)
		checkDelta(t, state, bytes.Clone(state), uint64(len(state)), 0, "")
		checkDelta(t, state, state, uint64(len(state)), 0, "")
	}
}

// Other things may be in the frames than states of engines.
func TestP12NoStateIsLookedFor(t *testing.T) {
	real := newEngine(t, "a b / 5").Save()
	for _, content := range []string{"", "\xff", "S", "D", "\x05a / 5", "anything", "\x00\x00\x00\x00\x00\x00\x00\x00"} {
		state := stateOf(content)
		checkRefused(t, "no state", state)
		for _, other := range [][]byte{real, stateOf("other"), stateOf("")} {
			for _, pair := range [][2][]byte{{state, other}, {other, state}} {
				want, _ := modelDelta(pair[0], pair[1])
				if got := delta(t, pair[0], pair[1]); !bytes.Equal(got, want) {
					t.Errorf("Delta(%x, %x) = %x; want %x", pair[0], pair[1], got, want)
				}
				checkApply(t, pair[0], want, pair[1], api.OK)
			}
		}
	}
}

func TestP12OneBeginsWithTheOther(t *testing.T) {
	short := stateOf("ab")
	for _, more := range []string{"", "x", "ab", strings.Repeat("y", 300)} {
		long := sealed(append(bytes.Clone(short), more...))
		checkDelta(t, short, long, uint64(len(short)), 0, string(long[len(short):]))
		checkDelta(t, long, short, uint64(len(short)), 0, "")
	}
}

// The long frame ends with all of the short one; but the kind is at the beginning of both, and counted there.
func TestP12OneEndsWithTheOther(t *testing.T) {
	short := stateOf("ab")
	way := detour(sumNumber([]byte("S")), sumNumber(nil))
	long := sealed([]byte("S" + string(way) + "Sab"))
	if !bytes.HasSuffix(long, short) || way[0] == 'a' {
		t.Fatalf("%x does not end with %x alone", long, short)
	}
	checkDelta(t, short, long, 1, uint64(len(short)-1), string(way)+"S")
	checkDelta(t, long, short, 1, uint64(len(short)-1), "")
}

// Both end alike with more than their sums.
func TestP12EndsAlike(t *testing.T) {
	first := "abcde"
	second := twin(first)
	if second[0] == first[0] || second[4] == first[4] {
		t.Fatalf("%q and %q are alike at their ends", first, second)
	}
	for _, rest := range []string{"", "x", strings.Repeat("x", 123), strings.Repeat("x", 124), strings.Repeat("x", 20000)} {
		from, to := stateOf(first+rest), stateOf(second+rest)
		checkDelta(t, from, to, 1, uint64(len(rest)+4), second)
		checkDelta(t, to, from, 1, uint64(len(rest)+4), first)
	}
}

// Sums that end alike in one byte or two, and no more: these bytes are counted as any others.
func TestP12SumsThatEndAlike(t *testing.T) {
	met := map[int]int{}
	from := stateOf("0")
	for n := range 1 << 18 {
		to := stateOf("1" + string([]byte{byte(n), byte(n >> 8), byte(n >> 16)}))
		tail := 0
		for from[len(from)-1-tail] == to[len(to)-1-tail] {
			tail++
		}
		if tail > 0 && met[tail] < 3 {
			met[tail]++
			checkDelta(t, from, to, 1, uint64(tail), string(to[1:len(to)-tail]))
		}
	}
	if met[1] == 0 || met[2] == 0 {
		t.Errorf("too few sums end alike: %v", met)
	}
}

// What the beginning has, the end has not: it is as long as can be of what is left.
func TestP12BeginningAndEndWouldOverlap(t *testing.T) {
	for _, c := range []struct{ content, rest string }{{"ab", "ccc"}, {"cc", "ccccc"}, {"", "c"}, {strings.Repeat("c", 200), strings.Repeat("c", 300)}} {
		inserted := loop(c.content, 'c')
		if inserted[1] == 'c' {
			t.Fatalf("%q begins with two alike", inserted)
		}
		short, long := stateOf(c.content+c.rest), stateOf(c.content+inserted+c.rest)
		head := uint64(1 + len(c.content) + 1) // one byte of what was inserted is as the rest begins
		tail := uint64(len(short)) - head
		if !bytes.HasSuffix(long, short[head-1:]) {
			t.Fatalf("nothing would overlap in %x and %x", short, long)
		}
		checkDelta(t, short, long, head, tail, string(long[head:uint64(len(long))-tail]))
		checkDelta(t, long, short, head, tail, "")
	}
}

// The same content twice and three times: all of the shorter frame is alike from the front, but for what follows the content.
func TestP12RepeatedContent(t *testing.T) {
	part := loop("", 'a')
	for n := range 4 {
		short, long := stateOf(strings.Repeat(part, n)), stateOf(strings.Repeat(part, n+1))
		head := uint64(1 + n*len(part))
		if short[head] == long[head] {
			t.Fatalf("%x and %x go on alike", short, long)
		}
		checkDelta(t, short, long, head, 4, part)
		checkDelta(t, long, short, head, 4, "")
	}
}

func TestP12NumbersOfOneByteAndOfTwo(t *testing.T) {
	for _, length := range []int{126, 127, 128, 129, 16382, 16383, 16384} {
		content := strings.Repeat("z", length-1)
		from, to := stateOf(content+"a"), stateOf(content+"b")
		tail := 0
		for from[len(from)-1-tail] == to[len(to)-1-tail] {
			tail++
		}
		checkDelta(t, from, to, uint64(length), uint64(tail), string(to[length:len(to)-tail]))
	}
}

func TestP12NoFrames(t *testing.T) {
	good := stateOf("abc")
	for _, odd := range oddStates() {
		checkNoDelta(t, odd, good)
		checkNoDelta(t, good, odd)
		checkNoDelta(t, odd, odd)
		checkNoDelta(t, odd, stateOf(""))
	}
	checkDelta(t, good, good, uint64(len(good)), 0, "")
}

// randomContents are short and of few bytes, so that much is alike; some of them are twins of others.
func randomContents(random *rand.Rand) []string {
	twins := []string{"", "abcab", twin("abcab"), loop("", 'a'), loop("a", 'b')}
	var out []string
	for range 400 {
		content := make([]byte, random.Intn(7))
		for i := range content {
			content[i] = "aab"[random.Intn(3)]
		}
		out = append(out, twins[random.Intn(len(twins))]+string(content))
	}
	return out
}

func TestP12AndP13AgainstASecondDescription(t *testing.T) {
	random := rand.New(rand.NewSource(21))
	contents := randomContents(random)
	met := map[api.Errno]int{}
	tails := 0
	for range 100000 {
		from, to := stateOf(contents[random.Intn(len(contents))]), stateOf(contents[random.Intn(len(contents))])
		d, _ := modelDelta(from, to)
		if got := delta(t, from, to); !bytes.Equal(got, d) {
			t.Fatalf("Delta(%x, %x) = %x; want %x", from, to, got, d)
		}
		if _, rest, _ := modelNumber(d[5:]); rest[0] > 0 {
			tails++
		}
		if random.Intn(2) == 0 {
			d = changedBytes(random, d)
		}
		if random.Intn(4) == 0 {
			from = stateOf(contents[random.Intn(len(contents))])
		}
		want, errno := modelApply(from, d)
		checkApply(t, from, d, want, errno)
		met[errno]++
	}
	if met[api.OK] < 1000 || met[api.ErrBytes] < 1000 || met[api.ErrChain] < 1000 || tails < 1000 {
		t.Errorf("too little was met: %v, %d ends alike", met, tails)
	}
}

// All that the calls do with frames, they do without changing or keeping them.
func TestP2DeltaAndApplyKeepNothing(t *testing.T) {
	first := "abcde"
	for _, pair := range [][2][]byte{
		{stateOf("abcd"), stateOf("abxd")}, {stateOf("abcd"), stateOf("abcd")}, {stateOf(first + "xyz"), stateOf(twin(first) + "xyz")}, {stateOf("ab"), stateOf("")},
		{stateOf("ab"), sealed(append(stateOf("ab"), 'x'))}, {sealed(append(stateOf("ab"), 'x')), stateOf("ab")},
	} {
		d, to := bytes.Clone(delta(t, pair[0], pair[1])), bytes.Clone(pair[1])
		checkOwn(t, d, pair[0], pair[1], spotter.Delta)
		checkOwn(t, to, pair[0], d, spotter.Apply)
	}
}

// checkOwn: arguments with room behind them stay as they are, and neither they nor the answers lean on each other.
func checkOwn(t *testing.T, want, first, second []byte, call func(a, b []byte) ([]byte, api.Errno)) {
	t.Helper()
	const room = "room behind it"
	a, b := append(bytes.Clone(first), room...), append(bytes.Clone(second), room...)
	x, _ := call(a[:len(first)], b[:len(second)])
	y, _ := call(a[:len(first)], b[:len(second)])
	if string(a) != string(first)+room || string(b) != string(second)+room {
		t.Errorf("a call wrote into what was handed in: %q, %q", a, b)
	}
	overwrite(x)
	if string(a) != string(first)+room || string(b) != string(second)+room {
		t.Errorf("an answer was written into, and what was handed in turned into %q, %q", a, b)
	}
	overwrite(a)
	overwrite(b)
	if !bytes.Equal(y, want) {
		t.Errorf("an answer turned into %x; want %x", y, want)
	}
}

// One memory for both arguments is as good as two.
func TestP2DeltaOfOneMemory(t *testing.T) {
	state := stateOf("abc")
	checkDelta(t, state, state, uint64(len(state)), 0, "")
	d := delta(t, state, state)
	checkApply(t, d, d, nil, api.ErrBytes)
	checkApply(t, state, state, nil, api.ErrBytes)
}

func TestP2FramesFromManyGoroutines(t *testing.T) {
	a, b, c := stateOf("abcd"), stateOf("abxd"), stateOf("axd")
	first, second := delta(t, a, b), delta(t, b, c)
	list := [][]byte{a, first, second}
	var group sync.WaitGroup
	for range 8 {
		group.Go(func() {
			for range 100 {
				if d, _ := spotter.Delta(a, b); !bytes.Equal(d, first) {
					t.Errorf("Delta = %x; want %x", d, first)
				}
				checkApply(t, b, second, c, api.OK)
				checkApply(t, c, second, nil, api.ErrChain)
				checkResolve(t, "shared", list, c, 2)
			}
		})
	}
	group.Wait()
}
