package spotter_test

import (
	"bytes"
	"fmt"
	"math/rand"
	"slices"
	"strconv"
	"testing"

	"spotter/api"
	"spotter/spotter"
)

func checkResolve(t *testing.T, what string, frames [][]byte, want []byte, wantAt int) {
	t.Helper()
	got, at := spotter.Resolve(frames)
	if !bytes.Equal(got, want) || at != wantAt || (got == nil) != (want == nil) {
		t.Errorf("%s: Resolve(%x) = %x, %d; want %x, %d", what, frames, got, at, want, wantAt)
	}
}

// checkList: the second description says the same.
func checkList(t *testing.T, what string, frames [][]byte, want []byte, wantAt int) {
	t.Helper()
	checkResolve(t, what, frames, want, wantAt)
	if state, at := modelResolve(frames); !bytes.Equal(state, want) || at != wantAt {
		t.Errorf("%s: the test's own answer is %x, %d", what, state, at)
	}
}

// chainOf has states and the deltas from each to the next one.
func chainOf(t *testing.T, length int) (states, deltas [][]byte) {
	t.Helper()
	for i := range length + 1 {
		states = append(states, stateOf("state "+strconv.Itoa(i)))
	}
	for i := range length {
		deltas = append(deltas, delta(t, states[i], states[i+1]))
	}
	return states, deltas
}

func TestP14NoFrames(t *testing.T) {
	states, deltas := chainOf(t, 2)
	checkList(t, "nil", nil, nil, -1)
	checkList(t, "empty", [][]byte{}, nil, -1)
	checkList(t, "a nil frame", [][]byte{nil}, nil, -1)
	checkList(t, "an empty frame", [][]byte{{}}, nil, -1)
	checkList(t, "odd ones", oddStates(), nil, -1)
	checkList(t, "deltas alone", deltas, nil, -1)
	checkList(t, "a delta", deltas[:1], nil, -1)
	checkList(t, "one state", states[:1], states[0], 0)
	checkList(t, "the least state", [][]byte{stateOf("")}, stateOf(""), 0)
	checkList(t, "states", states, states[2], 2)
	checkList(t, "one twice", [][]byte{states[0], states[0]}, states[0], 1)
	checkList(t, "odd ones before", append(oddStates(), states[0]), states[0], len(oddStates()))
	checkList(t, "odd ones behind", append([][]byte{states[0]}, oddStates()...), states[0], 0)
	checkList(t, "odd ones between", append(append([][]byte{states[0]}, oddStates()...), deltas[0]), states[1], 1+len(oddStates()))
	checkList(t, "a delta of another one behind", [][]byte{states[0], deltas[1]}, states[0], 0)
	checkList(t, "other deltas", [][]byte{states[0], deltas[1], sealed([]byte("D")), deltaOf(states[0], 99, 0, nil), deltaOf(states[0], 0, 0, nil)}, states[0], 0)
}

// The state from which a delta leads must come before it.
func TestP14StatesBehindTheirDeltas(t *testing.T) {
	s, d := chainOf(t, 3)
	checkList(t, "behind", [][]byte{d[0], s[0]}, s[0], 1)
	checkList(t, "behind, and another", [][]byte{d[0], s[0], d[1]}, s[0], 1)
	checkList(t, "before and behind", [][]byte{s[0], d[0], s[0]}, s[0], 2)
	checkList(t, "deltas the other way round", [][]byte{s[0], d[1], d[0]}, s[1], 2)
	checkList(t, "the state between", [][]byte{d[1], s[0], d[0], d[1]}, s[2], 3)
	checkList(t, "itself", [][]byte{delta(t, s[0], s[0])}, nil, -1)
	checkList(t, "to itself", [][]byte{s[0], delta(t, s[0], s[0])}, s[0], 1)
	checkList(t, "to itself, behind", [][]byte{delta(t, s[0], s[0]), s[0]}, s[0], 1)
}

func TestP14ChainsOfFourAndOfFive(t *testing.T) {
	s, d := chainOf(t, 8)
	for length := range 9 {
		frames := append([][]byte{s[0]}, d[:length]...)
		end := min(length, 4)
		checkList(t, strconv.Itoa(length)+" deltas", frames, s[end], end)
	}
	// a state between makes it shorter
	checkList(t, "a state behind the fourth", [][]byte{s[0], d[0], d[1], d[2], d[3], s[4], d[4]}, s[5], 6)
	checkList(t, "a state before all", [][]byte{s[1], s[0], d[0], d[1], d[2], d[3], d[4]}, s[5], 6)
	checkList(t, "a state before all, and one more", [][]byte{s[1], s[0], d[0], d[1], d[2], d[3], d[4], d[5]}, s[5], 6)
	checkList(t, "a state that leads nowhere", [][]byte{s[0], d[0], d[1], d[2], d[3], s[8], d[4]}, s[8], 5)
	// four deltas may lie far apart
	frames := [][]byte{s[0]}
	for i := range 5 {
		frames = append(frames, nil, d[i], d[7], []byte{1})
	}
	checkList(t, "far apart", frames, s[4], 14)
}

// What stands for a state within few deltas goes on doing so, however many deltas lie between that would do, too.
func TestP14DeltasToldAgain(t *testing.T) {
	s, d := chainOf(t, 5)
	stay := delta(t, s[0], s[0])
	checkList(t, "one again", [][]byte{s[0], d[0], d[0], d[0]}, s[1], 3)
	checkList(t, "all again", append(append([][]byte{s[0]}, d[:5]...), d[:5]...), s[4], 9)
	for length := range 8 {
		frames := append([][]byte{s[0]}, slices.Repeat([][]byte{stay}, length)...)
		checkList(t, fmt.Sprint("staying ", length), frames, s[0], length)
	}
	back := delta(t, s[1], s[0])
	checkList(t, "to and fro", [][]byte{s[0], d[0], back, d[0], back, d[0], back}, s[0], 6)
	checkList(t, "to and fro, then on", [][]byte{s[0], d[0], back, d[0], back, d[0], d[1]}, s[2], 6)
}

// rivals are two states of one sum, from both of which one delta leads on, to two states of one sum again.
type rivals struct {
	one, other           []byte
	lead                 []byte
	oneLed, otherLed     []byte
	onward               []byte // from oneLed alone
	oneOnward            []byte
	start                []byte
	toOther, stay, first []byte // deltas: from start to the other; from start to itself; from start to the one
}

func newRivals(t *testing.T) rivals {
	t.Helper()
	var r rivals
	a := "abcde"
	b := twin(a)
	r.one, r.other = stateOf(a+"x"), stateOf(b+"x")
	r.oneLed, r.otherLed = stateOf(a+"y"), stateOf(b+"y")
	r.lead = delta(t, r.one, r.oneLed)
	if !bytes.Equal(r.lead, delta(t, r.other, r.otherLed)) || bytes.Equal(r.oneLed, r.otherLed) {
		t.Fatalf("%x does not lead from both", r.lead)
	}
	r.oneOnward = stateOf(a[:3] + "z")
	r.onward = delta(t, r.oneLed, r.oneOnward)
	checkApply(t, r.otherLed, r.onward, nil, api.ErrBytes)
	r.start = stateOf("start")
	r.toOther, r.first, r.stay = delta(t, r.start, r.other), delta(t, r.start, r.one), delta(t, r.start, r.start)
	return r
}

func TestP14TheLastOneThatWouldDo(t *testing.T) {
	r := newRivals(t)
	checkList(t, "the other is last", [][]byte{r.one, r.other, r.lead}, r.otherLed, 2)
	checkList(t, "the one is last", [][]byte{r.other, r.one, r.lead}, r.oneLed, 2)
	checkList(t, "the one again", [][]byte{r.one, r.other, r.one, r.lead}, r.oneLed, 3)
	checkList(t, "one behind", [][]byte{r.one, r.lead, r.other}, r.other, 2)
	checkList(t, "each its own", [][]byte{r.one, r.lead, r.other, r.lead}, r.otherLed, 3)
	checkList(t, "by a delta", [][]byte{r.one, r.start, r.toOther, r.lead}, r.otherLed, 3)
	checkList(t, "by a delta before", [][]byte{r.start, r.toOther, r.one, r.lead}, r.oneLed, 3)
	// the last one has the sum, but Apply is not OK
	checkList(t, "not with the last", [][]byte{r.one, r.other, stateOf("no"), delta(t, r.one, stateOf("abc"))}, stateOf("abc"), 3)
	checkList(t, "not with the last two", [][]byte{r.oneLed, r.otherLed, r.otherLed, r.onward}, r.oneOnward, 3)
	checkList(t, "with none", [][]byte{r.otherLed, r.otherLed, r.onward}, r.otherLed, 1)
}

// The last one that would do is looked for among those that stand for a state within fewer deltas.
func TestP14WithinFewerDeltas(t *testing.T) {
	r := newRivals(t)
	at := func(stays int, frames ...[]byte) [][]byte {
		return slices.Concat([][]byte{r.one, r.start}, slices.Repeat([][]byte{r.stay}, stays), frames)
	}
	checkList(t, "within few", at(0, r.toOther, r.lead), r.otherLed, 3)
	checkList(t, "to itself is no longer way", at(3, r.toOther, r.lead), r.otherLed, 6)
	s, d := chainOf(t, 3)
	toOther := [][]byte{delta(t, s[0], r.other), delta(t, s[1], r.other), delta(t, s[2], r.other), delta(t, s[3], r.other)}
	for deltas := range 4 {
		// the other is reached by one delta more than there are in the chain
		frames := slices.Concat([][]byte{r.one, s[0]}, d[:deltas], [][]byte{toOther[deltas], r.lead})
		want := r.otherLed
		if deltas == 3 {
			want = r.oneLed
		}
		checkList(t, fmt.Sprint(deltas+1, " deltas to the other"), frames, want, len(frames)-1)
	}
	// that the frame before stands for the other within 4 shows, when nothing follows
	checkList(t, "four deltas to the other", slices.Concat([][]byte{r.one, s[0]}, d[:3], [][]byte{toOther[3]}), r.other, 5)
}

// Within three deltas the frame before the last stands for another state than within one: from that the last delta leads nowhere.
func TestP14AFrameMayStandForTwoStates(t *testing.T) {
	r := newRivals(t)
	s, d := chainOf(t, 1)
	toOther := delta(t, s[1], r.other)
	frames := [][]byte{r.one, s[0], d[0], toOther, r.lead, r.onward}
	if got := modelStands(frames, 5, 3); !bytes.Equal(got, r.oneOnward) {
		t.Fatalf("the last frame stands for %x within three deltas; want %x", got, r.oneOnward)
	}
	checkList(t, "two states", frames, r.otherLed, 4)
	checkList(t, "one state", slices.Delete(slices.Clone(frames), 3, 4), r.oneOnward, 4)
	// one delta more on the way to the other, and it is beyond what the last delta may look at
	s, d = chainOf(t, 2)
	frames = [][]byte{r.one, s[0], d[0], d[1], delta(t, s[2], r.other), r.lead, r.onward}
	checkList(t, "beyond", frames, r.oneOnward, 6)
}

// A delta from a state to itself would lead from where it led within fewer deltas, if a frame were one before itself.
func TestP14AFrameIsNotBeforeItself(t *testing.T) {
	r := newRivals(t)
	s, d := chainOf(t, 1)
	stay := delta(t, r.one, r.one)
	checkApply(t, r.other, stay, r.other, api.OK)
	frames := [][]byte{r.one, s[0], d[0], delta(t, s[1], r.other), stay}
	if got := modelStands(frames, 4, 1); !bytes.Equal(got, r.one) {
		t.Fatalf("the last frame stands for %x within one delta; want %x", got, r.one)
	}
	checkList(t, "itself", frames, r.other, 4)
}

// randomFrames are states, and deltas of which most lead on from where the one before led.
func randomFrames(random *rand.Rand, states [][]byte) [][]byte {
	here := states[random.Intn(len(states))]
	out := slices.Repeat([][]byte{here}, random.Intn(2))
	for range random.Intn(11) {
		to := states[random.Intn(len(states))]
		d, _ := modelDelta(here, to)
		switch random.Intn(12) {
		case 0, 1:
			out = append(out, here)
		case 2:
			out = append(out, changedBytes(random, d))
		case 3:
			out = append(out, [][]byte{nil, {}, []byte("S"), sealed(nil), here[1:]}[random.Intn(5)])
		case 4:
			here = to
		default:
			out = append(out, d)
			here = to
		}
	}
	return out
}

func TestP14AgainstASecondDescription(t *testing.T) {
	random := rand.New(rand.NewSource(23))
	r := newRivals(t)
	rivals := [][]byte{r.one, r.other, r.oneLed, r.otherLed, r.oneOnward, r.start}
	plain, _ := chainOf(t, 9)
	met := map[string]int{}
	for i := range 60000 {
		frames := randomFrames(random, [][][]byte{rivals, plain, append(rivals[:2:2], plain[:1]...)}[i%3])
		want, at := modelResolve(frames)
		checkResolve(t, "random", frames, want, at)
		switch {
		case at < 0:
			met["none"]++
		case isFrame('D', frames[at]):
			met["delta"]++
		default:
			met["state"]++
		}
		if at >= 0 && !bytes.Equal(modelStands(frames, at, 3), want) {
			met["within four alone"]++
		}
		for last := at + 1; last < len(frames); last++ {
			if modelStands(frames, last, 3) != nil {
				met["within three alone"]++
			}
		}
	}
	for _, what := range []string{"none", "delta", "state", "within four alone", "within three alone"} {
		if met[what] < 10 {
			t.Errorf("%q was met %d times: %v", what, met[what], met)
		}
	}
}

// Long lists do not take long: not where each frame has many before it, nor where many states wait for deltas that lead nowhere.
func TestP1LongLists(t *testing.T) {
	s, d := chainOf(t, 4)
	var frames [][]byte
	for i := range 20000 {
		frames = append(frames, d[i%4])
	}
	checkResolve(t, "deltas alone", frames, nil, -1)
	frames = append([][]byte{s[0]}, frames...)
	checkResolve(t, "a state before them", frames, s[4], 20000)
	frames = slices.Repeat([][]byte{s[0]}, 20000)
	for range 20000 {
		frames = append(frames, deltaOf(s[0], 1, 0, []byte("nowhere")))
	}
	checkResolve(t, "deltas that lead nowhere", frames, s[0], 19999)
	r := newRivals(t)
	frames = slices.Repeat([][]byte{r.one, r.other}, 10000)
	for range 20000 {
		frames = append(frames, deltaOf(r.one, 1, 0, []byte("nowhere")))
	}
	checkResolve(t, "two states of one sum", frames, r.other, 19999)
}

func TestP2ResolveKeepsNothing(t *testing.T) {
	s, d := chainOf(t, 2)
	for _, frames := range [][][]byte{{s[0]}, {s[0], s[1]}, {s[0], d[0]}, {s[0], d[0], d[1]}, {s[0], delta(t, s[0], s[0])}} {
		var handed, kept [][]byte
		for _, f := range frames {
			roomy := append(bytes.Clone(f), "room behind it"...)
			handed, kept = append(handed, roomy[:len(f)]), append(kept, bytes.Clone(roomy))
		}
		want, _ := modelResolve(frames)
		first, _ := spotter.Resolve(handed)
		second, _ := spotter.Resolve(handed)
		overwrite(first)
		for i, f := range handed {
			if !bytes.Equal(f[:cap(f)][:len(kept[i])], kept[i]) {
				t.Errorf("frame %d turned into %x; want %x", i, f, kept[i])
			}
			overwrite(f)
		}
		if !bytes.Equal(second, want) {
			t.Errorf("the answer turned into %x; want %x", second, want)
		}
	}
}

// Saves of an engine and deltas between them, some of them lost: what is found is a state that the engine was in, and it goes on from there.
func TestP14ListsOfAnEngine(t *testing.T) {
	random := rand.New(rand.NewSource(24))
	for i := range 300 {
		e := newEngine(t, randomPattern(random))
		saves := [][]byte{e.Save()}
		frames := [][]byte{saves[0]}
		for _, a := range randomActs(random, starts()[i%len(starts())], 12) {
			a.on(e)
			saves = append(saves, e.Save())
			newest, last := saves[len(saves)-1], saves[len(saves)-2]
			switch random.Intn(5) {
			case 0:
				frames = append(frames, newest)
			case 1:
				frames = append(frames, nil)
			default:
				frames = append(frames, delta(t, last, newest))
			}
		}
		want, at := modelResolve(frames)
		checkResolve(t, "of an engine", frames, want, at)
		if !bytes.Equal(want, saves[at]) {
			t.Fatalf("frame %d stands for %x; the engine was in %x", at, want, saves[at])
		}
		checkSound(t, "of an engine", want)
	}
}
