package spotter_test

import (
	"bytes"
	"encoding/hex"
	"fmt"
	"math"
	"slices"
	"strings"
	"sync"
	"testing"

	"spotter/api"
	"spotter/spotter"
)

func loaded(t *testing.T, frame []byte) *spotter.Engine {
	t.Helper()
	e, errno := spotter.Load(frame)
	if e == nil || errno != api.OK {
		t.Fatalf("Load(%x) = %v, %d", frame, e, errno)
	}
	return e
}

func checkRefused(t *testing.T, what string, frame []byte) {
	t.Helper()
	if e, errno := spotter.Load(frame); e != nil || errno != api.ErrBytes {
		t.Errorf("%s: Load(%x) = %v, %d", what, frame, e, errno)
	}
}

// checkSound: the frame is loaded, and saved again as the same bytes.
func checkSound(t *testing.T, what string, frame []byte) {
	t.Helper()
	e, errno := spotter.Load(frame)
	if e == nil || errno != api.OK {
		t.Errorf("%s: Load(%x) = %v, %d", what, frame, e, errno)
		return
	}
	if got := e.Save(); !bytes.Equal(got, frame) {
		t.Errorf("%s: Save behind Load = %x; want %x", what, got, frame)
	}
}

// plain is a sound state with a bit of everything. Its runs begin 5 and 7 before the watermark.
func plain() state {
	return state{
		pattern:   "a b+ c / 10",
		watermark: 20,
		next:      40,
		waiting:   []stateEvent{{31, 'b', 22}, {30, 'c', 25}, {32, 'a', 25}},
		runs: []stateRun{
			{0, []uint64{3}, 15},
			{1, []uint64{3, 5}, 15},
			{1, []uint64{3, 5, 4}, 15},
			{0, []uint64{9}, 13},
		},
	}
}

// flat has no '+'.
func flat() state {
	return state{pattern: "a b c / 10", watermark: 20, next: 40, runs: []stateRun{{0, []uint64{1}, 15}, {1, []uint64{2, 3}, 15}}}
}

// same may have runs of one list at two steps.
func same() state {
	return state{pattern: "a+ a+ a / 10", watermark: 20, next: 40, runs: []stateRun{
		{0, []uint64{1}, 15}, {0, []uint64{1, 2}, 15}, {1, []uint64{1, 2}, 15}, {0, []uint64{2}, 16},
	}}
}

func TestP10SoundStates(t *testing.T) {
	for _, s := range []state{plain(), flat(), same()} {
		if broken := s.broken(); broken != nil {
			t.Fatalf("%v breaks %v", s, broken)
		}
		checkSound(t, s.pattern, s.frame())
	}
	example, _ := hex.DecodeString("530561202f2035ffffffffffffffffff010000002cee2abe")
	checkSound(t, "example", example)
}

// stateCase changes a state: it breaks one clause of P10 alone, or, without one, none.
type stateCase struct {
	clause string
	of     func() state
	change func(s *state)
}

func checkCases(t *testing.T, cases []stateCase) {
	t.Helper()
	for i, c := range cases {
		s := c.of()
		c.change(&s)
		what := fmt.Sprintf("case %d (%s)", i, c.clause)
		if broken := strings.Join(s.broken(), ", "); broken != c.clause {
			t.Errorf("%s breaks %q", what, broken)
		}
		if c.clause == "" {
			checkSound(t, what, s.frame())
		} else {
			checkRefused(t, what, s.frame())
		}
	}
}

func TestP10Pattern(t *testing.T) {
	bare := func() state { return state{watermark: 20, next: 40} }
	var cases []stateCase
	for _, text := range []string{"a / 0", "a / 9999", "a+ b+ c+ d+ / 5", "é Я+ / 5", "𝒳+ 𝒳+ 𝒳+ 𝒳+ / 9999"} {
		cases = append(cases, stateCase{"", bare, func(s *state) { s.pattern = text }})
	}
	for _, text := range []string{
		// none
		"", "a", "/ 0", "/ 5", "a / ", "a b c d e / 5", "a / 10000", "a / 05", "a ++ / 5", "1 / 5", "\xff / 5", "a / 5\x00", "\xed\xa0\x80 / 5",
		// not canonical
		"a/5", " a / 5", "a / 5 ", "a  / 5", "a /  5", "a  b / 5", "a/ 5", "a /5", "a" + strings.Repeat(" ", 55) + "/ 12",
		// longer than 60 bytes, and no number of one byte
		"a" + strings.Repeat(" ", 56) + "/ 12", "a / 5" + strings.Repeat(" ", 56), "a / 5" + strings.Repeat(" ", 200), strings.Repeat("a", 61), strings.Repeat("a", 1000),
	} {
		cases = append(cases, stateCase{"pattern", bare, func(s *state) { s.pattern = text }})
	}
	checkCases(t, cases)
}

func TestP10Offsets(t *testing.T) {
	checkCases(t, []stateCase{
		{"", flat, func(s *state) { s.next = 1<<53 - 1 }},
		{"next", flat, func(s *state) { s.next = 1 << 53 }},
		{"next", flat, func(s *state) { s.next = 1<<53 + 1 }},
		{"next", flat, func(s *state) { s.next = 1 << 63 }},
		{"next", flat, func(s *state) { s.next = math.MaxUint64 }},
		// just below the next one, and at it
		{"", plain, func(s *state) { s.next = 33 }},
		{"offset", plain, func(s *state) { s.next = 32 }},
		{"", plain, func(s *state) { s.waiting[0].offset = 39 }},
		{"offset", plain, func(s *state) { s.waiting[0].offset = 40 }},
		{"offset", plain, func(s *state) { s.waiting[0].offset = 1 << 53 }},
		{"offset", plain, func(s *state) { s.waiting[0].offset = 1<<63 + 1 }},
		{"offset", plain, func(s *state) { s.waiting[2].offset = math.MaxUint64 }},
		{"", flat, func(s *state) { s.next = 4 }},
		{"offset", flat, func(s *state) { s.next = 3 }},
		{"", plain, func(s *state) { s.runs[3].offsets[0] = 39 }},
		{"offset", plain, func(s *state) { s.runs[3].offsets[0] = 40 }},
		{"offset", plain, func(s *state) { s.runs[3].offsets[0] = 1 << 63 }},
		{"", plain, func(s *state) { s.runs[2].offsets[2] = 39 }},
		{"offset", plain, func(s *state) { s.runs[2].offsets[2] = 40 }},
		{"offset", plain, func(s *state) { s.runs[2].offsets[2] = math.MaxUint64 }},
		{"", flat, func(s *state) { s.next, s.runs[1].offsets[1] = 1<<53-1, 1<<53-2 }},
		{"offset", flat, func(s *state) { s.next, s.runs[1].offsets[1] = 1<<53-1, 1<<53-1 }},
		{"", plain, func(s *state) { s.next, s.waiting[0].offset = 1<<53-1, 1<<53-2 }},
		{"", plain, func(s *state) { s.next, s.waiting, s.runs = 0, nil, nil }},
		{"offset", plain, func(s *state) { s.next, s.waiting, s.runs = 0, []stateEvent{{0, 'a', 21}}, nil }},
		{"offset", plain, func(s *state) { s.next, s.waiting, s.runs = 0, nil, []stateRun{{0, []uint64{0}, 20}} }},
	})
}

func TestP10Waiting(t *testing.T) {
	wait := func(n int) func(s *state) {
		return func(s *state) {
			s.waiting = nil
			for i := range n {
				s.waiting = append(s.waiting, stateEvent{uint64(10 + i), 'a', 21})
			}
		}
	}
	checkCases(t, []stateCase{
		{"", flat, wait(0)},
		{"", flat, wait(12)},
		{"waiting many", flat, wait(13)},
		{"waiting many", flat, wait(24)},
		// their order
		{"waiting order", plain, func(s *state) { slices.Reverse(s.waiting) }},
		{"waiting order", plain, func(s *state) { s.waiting[0].time = 26 }},
		{"waiting order", plain, func(s *state) { s.waiting[1].offset, s.waiting[2].offset = 32, 30 }},
		{"waiting order", plain, func(s *state) { s.waiting[0].time = 25 }},
		{"", plain, func(s *state) { s.waiting[0].time, s.waiting[0].offset = 25, 29 }},
		{"", plain, func(s *state) { s.waiting[2].time = math.MaxInt64 }},
		// two with one offset
		{"waiting twice", plain, func(s *state) { s.waiting[0].offset = 30 }},
		{"waiting twice", plain, func(s *state) { s.waiting[0].offset = 32 }},
		{"waiting twice", plain, func(s *state) { s.waiting[2].offset = 30 }},
		{"waiting twice", plain, func(s *state) { s.waiting[2] = s.waiting[1] }},
		// kinds
		{"", plain, func(s *state) { s.waiting[0].kind = 'a' }},
		{"kind", plain, func(s *state) { s.waiting[0].kind = 'd' }},
		{"kind", plain, func(s *state) { s.waiting[0].kind = 'A' }},
		{"kind", plain, func(s *state) { s.waiting[0].kind = '+' }},
		{"kind", plain, func(s *state) { s.waiting[0].kind = ' ' }},
		{"kind", plain, func(s *state) { s.waiting[0].kind = 0 }},
		{"kind", plain, func(s *state) { s.waiting[2].kind = 0x110000 }},
		{"kind", plain, func(s *state) { s.waiting[2].kind = 'a' + 1<<8 }},
		{"kind", plain, func(s *state) { s.waiting[2].kind = 'a' + 1<<32 }},
		{"kind", plain, func(s *state) { s.waiting[2].kind = 'a' + 1<<63 }},
		{"", flat, func(s *state) { s.pattern, s.runs, s.waiting = "𝒳 / 5", nil, []stateEvent{{1, '𝒳', 21}} }},
		// above the watermark
		{"", plain, func(s *state) { s.waiting[0].time = 21 }},
		{"waiting late", plain, func(s *state) { s.waiting[0].time = 20 }},
		{"waiting late", plain, func(s *state) { s.waiting[0].time = math.MinInt64 }},
		{"", flat, func(s *state) {
			s.watermark, s.runs, s.waiting = math.MinInt64, nil, []stateEvent{{1, 'a', math.MinInt64 + 1}}
		}},
		{"waiting late", flat, func(s *state) {
			s.watermark, s.runs, s.waiting = math.MinInt64, nil, []stateEvent{{1, 'a', math.MinInt64}}
		}},
		{"", flat, func(s *state) {
			s.watermark, s.runs, s.waiting = math.MaxInt64-1, nil, []stateEvent{{1, 'a', math.MaxInt64}}
		}},
		{"waiting late", flat, func(s *state) {
			s.watermark, s.runs, s.waiting = math.MaxInt64, nil, []stateEvent{{1, 'a', math.MaxInt64}}
		}},
		{"waiting late", flat, func(s *state) {
			s.watermark, s.runs, s.waiting = math.MaxInt64, nil, []stateEvent{{1, 'a', math.MinInt64}}
		}},
	})
}

func TestP10RunsInTheirOrder(t *testing.T) {
	many := func(n int) func(s *state) {
		return func(s *state) {
			s.runs = nil
			for i := range n {
				s.runs = append(s.runs, stateRun{0, []uint64{uint64(i)}, 20})
			}
		}
	}
	checkCases(t, []stateCase{
		{"", flat, many(0)},
		{"", flat, many(24)},
		{"runs many", flat, many(25)},
		{"runs many", flat, many(40)},
		{"runs order", flat, func(s *state) { slices.Reverse(s.runs) }},
		{"runs order", plain, func(s *state) { s.runs[2], s.runs[3] = s.runs[3], s.runs[2] }},
		// a list that another begins with goes first
		{"runs order", plain, func(s *state) { s.runs[1], s.runs[2] = s.runs[2], s.runs[1] }},
		{"runs order", plain, func(s *state) { s.runs[0], s.runs[1] = s.runs[1], s.runs[0] }},
		// offset by offset, not as texts or bytes
		{"", flat, func(s *state) { s.next, s.runs[0].offsets[0], s.runs[1].offsets[0] = 1000, 9, 10 }},
		{"", flat, func(s *state) { s.next, s.runs[0].offsets[0], s.runs[1].offsets[0] = 1000, 255, 256 }},
		{"runs order", flat, func(s *state) { s.next, s.runs[0].offsets[0], s.runs[1].offsets[0] = 1000, 256, 255 }},
		// first the lists, then the steps
		{"runs order", same, func(s *state) { s.runs[1], s.runs[2] = s.runs[2], s.runs[1] }},
		{"runs order", same, func(s *state) { s.runs[2], s.runs[3] = s.runs[3], s.runs[2] }},
		// two the same: whatever moment they have
		{"runs twice", same, func(s *state) { s.runs[2].step = 0 }},
		{"runs twice", same, func(s *state) { s.runs[1] = s.runs[0] }},
		{"runs twice", same, func(s *state) { s.runs[1] = s.runs[0]; s.runs[1].first++ }},
		{"", same, func(s *state) { s.runs[2].first++ }},
	})
}

func TestP10Steps(t *testing.T) {
	// of is a state whose last run is at a step and has so many events.
	of := func(text string, step uint64, events int) func() state {
		return func() state {
			s := state{pattern: text, watermark: 20, next: 40, runs: []stateRun{{step: step, first: 20}}}
			for i := range events {
				s.runs[0].offsets = append(s.runs[0].offsets, uint64(i))
			}
			return s
		}
	}
	asItIs := func(*state) {}
	checkCases(t, []stateCase{
		// the pattern's steps, of which the last needs a '+' to go on
		{"", of("a b c d / 5", 2, 3), asItIs},
		{"go on", of("a b c d / 5", 3, 4), asItIs},
		{"step", of("a b c d / 5", 4, 5), asItIs},
		{"", of("a b c d+ / 5", 3, 4), asItIs},
		{"step", of("a b c d+ / 5", 4, 5), asItIs},
		{"step", of("a b c d+ / 5", 1<<32, 5), asItIs},
		{"step", of("a b c d+ / 5", 1<<63, 5), asItIs},
		{"step", of("a b c d+ / 5", math.MaxUint64, 5), asItIs},
		{"step", of("a b+ / 5", 3, 4), asItIs},
		{"go on", of("a / 5", 0, 1), asItIs},
		{"", of("a+ / 5", 0, 1), asItIs},
		{"go on", of("a+ b / 5", 1, 2), asItIs},
		{"go on", of("a+ b / 5", 1, 3), asItIs},
		// fewer events than steps
		{"few", of("a b / 5", 0, 0), asItIs},
		{"few", of("a+ b / 5", 0, 0), asItIs},
		{"few", of("a b c / 5", 1, 1), asItIs},
		{"few", of("a b c / 5", 1, 0), asItIs},
		{"few", of("a+ b+ c+ d+ / 5", 3, 3), asItIs},
		{"", of("a+ b+ c+ d+ / 5", 3, 4), asItIs},
		{"", of("a b c / 5", 1, 2), asItIs},
		// more events than steps: only where a step up to the run's own has a '+'
		{"many", of("a b / 5", 0, 2), asItIs},
		{"many", of("a b c / 5", 1, 3), asItIs},
		{"many", of("a b c+ / 5", 1, 3), asItIs},
		{"", of("a b c+ / 5", 2, 4), asItIs},
		{"", of("a b+ c / 5", 1, 3), asItIs},
		{"many", of("a b+ c / 5", 0, 2), asItIs},
		{"", of("a+ b c / 5", 1, 3), asItIs},
		{"", of("a+ b c / 5", 0, 40), asItIs},
		{"", of("a b+ c d / 5", 2, 40), asItIs},
	})
}

func TestP10EventsOfRuns(t *testing.T) {
	checkCases(t, []stateCase{
		{"offset twice", flat, func(s *state) { s.runs[1].offsets = []uint64{2, 2} }},
		{"offset twice", plain, func(s *state) { s.runs[2].offsets = []uint64{3, 5, 5} }},
		{"offset twice", plain, func(s *state) { s.runs[2].offsets = []uint64{3, 5, 3} }},
		{"offset twice", plain, func(s *state) { s.runs[2].offsets = []uint64{3, 5, 4, 7, 1, 5} }},
		{"", plain, func(s *state) { s.runs[2].offsets = []uint64{3, 5, 4, 7, 1, 6} }},
		{"waits still", plain, func(s *state) { s.runs[3].offsets[0] = 30 }},
		{"waits still", plain, func(s *state) { s.runs[3].offsets[0] = 31 }},
		{"waits still", plain, func(s *state) { s.runs[3].offsets[0] = 32 }},
		{"", plain, func(s *state) { s.runs[3].offsets[0] = 33 }},
		{"waits still", plain, func(s *state) { s.runs[2].offsets[1] = 31 }},
		{"waits still", plain, func(s *state) { s.runs[2].offsets[2] = 32 }},
		{"", plain, func(s *state) { s.runs[2].offsets[2] = 29 }},
	})
}

func TestP10FirstMoments(t *testing.T) {
	last, least := int64(math.MaxInt64), int64(math.MinInt64)
	// at is a state whose one run begins at a moment.
	at := func(window string, watermark, first int64) func() state {
		return func() state {
			return state{pattern: "a b / " + window, watermark: watermark, next: 1, runs: []stateRun{{0, []uint64{0}, first}}}
		}
	}
	asItIs := func(*state) {}
	checkCases(t, []stateCase{
		{"first above", at("10", 20, 21), asItIs},
		{"", at("10", 20, 20), asItIs},
		{"", at("10", 20, 11), asItIs},
		{"first early", at("10", 20, 10), asItIs},
		{"first early", at("10", 20, 9), asItIs},
		{"", at("10", 3, -6), asItIs},
		{"first early", at("10", 3, -7), asItIs},
		{"first above", at("10", -3, -2), asItIs},
		{"", at("9999", 9998, 0), asItIs},
		{"first early", at("9999", 9999, 0), asItIs},
		{"", at("1", 20, 20), asItIs},
		{"first early", at("1", 20, 19), asItIs},
		{"first early", at("0", 20, 20), asItIs},
		{"first early", at("0", 20, 19), asItIs},
		{"first above", at("9999", 20, last), asItIs},
		// where a difference of int64 would wrap round
		{"first early", at("9999", last, least), asItIs},
		{"first early", at("9999", last, -1), asItIs},
		{"first early", at("9999", 5, least), asItIs},
		{"first above", at("9999", least, last), asItIs},
		{"first above", at("9999", least, least+1), asItIs},
		{"", at("9999", least, least), asItIs},
		{"", at("9999", least+9998, least), asItIs},
		{"first early", at("9999", least+9999, least), asItIs},
		{"", at("9999", last, last), asItIs},
		{"", at("9999", last, last-9998), asItIs},
		{"first early", at("9999", last, last-9999), asItIs},
		{"first early", at("0", least, least), asItIs},
		// each run for itself
		{"first early", plain, func(s *state) { s.runs[2].first = 10 }},
		{"", plain, func(s *state) { s.runs[2].first = 11 }},
		{"first above", plain, func(s *state) { s.runs[3].first = 21 }},
		{"", plain, func(s *state) { s.runs[3].first = 20 }},
	})
}

func TestP10NoFrames(t *testing.T) {
	checkRefused(t, "nil", nil)
	checkRefused(t, "empty", []byte{})
	checkRefused(t, "a sum alone", sealed(nil))
	for b := range 256 {
		kind := []byte{byte(b)}
		checkRefused(t, "one byte", kind)
		checkRefused(t, "a kind alone", sealed(kind))
		if b != 'S' {
			checkRefused(t, "another kind", sealed(slices.Concat(kind, bytes.Join(plain().pieces()[1:], nil))))
		}
	}
	for n := range 5 {
		checkRefused(t, "a few bytes", bytes.Repeat([]byte("S"), n))
	}
}

// Each byte of a frame is of its sum, or of what the sum is of.
func TestP10WrongSums(t *testing.T) {
	frame := plain().frame()
	for i := range frame {
		for bit := range 8 {
			wrong := bytes.Clone(frame)
			wrong[i] ^= 1 << bit
			checkRefused(t, "a wrong sum", wrong)
		}
	}
	end := len(frame) - 4
	body, sum := frame[:end], frame[end:]
	checkRefused(t, "the lowest byte first", slices.Concat(body, []byte{sum[3], sum[2], sum[1], sum[0]}))
	checkRefused(t, "no sum", body)
	checkRefused(t, "two sums", sealed(frame))
	checkRefused(t, "a byte behind the sum", append(bytes.Clone(frame), 0))
}

func TestP10TooFewAndTooManyBytes(t *testing.T) {
	for _, s := range []state{plain(), flat(), same(), {pattern: "a / 5"}} {
		body := bytes.Join(s.pieces(), nil)
		for n := range body {
			checkRefused(t, "too few bytes", sealed(body[:n]))
		}
		for b := range 256 {
			checkRefused(t, "too many bytes", sealed(append(bytes.Clone(body), byte(b))))
		}
		checkRefused(t, "a state twice", sealed(append(body, body...)))
	}
}

// longer is the same number with a byte more than it needs.
func longer(piece []byte) []byte {
	out := append(bytes.Clone(piece), 0)
	out[len(out)-2] |= 128
	return out
}

// beyond is a number of ten bytes or eleven that would be the same, if bits above the 64th were passed over.
func beyond(piece []byte, length int) []byte {
	out := append(bytes.Clone(piece), make([]byte, length-len(piece))...)
	for i := range out[:length-1] {
		out[i] |= 128
	}
	out[length-1] |= 2
	return out
}

// numbersOf are the places of the pieces that are numbers.
func numbersOf(pieces [][]byte) []int {
	out := []int{1}
	for i := 3; i < len(pieces); i++ {
		out = append(out, i)
	}
	return out
}

func TestP10Numbers(t *testing.T) {
	s := plain()
	s.watermark = math.MinInt64 + 4
	s.next = 1 << 40
	s.waiting[2] = stateEvent{1 << 39, 'c', math.MaxInt64}
	s.waiting[1] = stateEvent{300, 'c', 1 << 40}
	for i := range s.runs {
		s.runs[i].first = math.MinInt64
	}
	if broken := s.broken(); broken != nil {
		t.Fatalf("%v breaks %v", s, broken)
	}
	checkSound(t, "numbers of one byte to ten", s.frame())
	for _, i := range numbersOf(s.pieces()) {
		for what, change := range map[string]func([]byte) []byte{
			"a byte too many":         longer,
			"two bytes too many":      func(p []byte) []byte { return longer(longer(p)) },
			"ten bytes":               func(p []byte) []byte { return beyond(p, 10) },
			"eleven bytes":            func(p []byte) []byte { return beyond(p, 11) },
			"twenty bytes":            func(p []byte) []byte { return beyond(p, 20) },
			"2^64 - 1":                func([]byte) []byte { return numberBytes(math.MaxUint64) },
			"2^63 above what it was":  func(p []byte) []byte { return numberBytes(uvarint(p) ^ 1<<63) },
			"2^32 above what it was":  func(p []byte) []byte { return numberBytes(uvarint(p) ^ 1<<32) },
			"one more than it was":    func(p []byte) []byte { return numberBytes(uvarint(p) + 1) },
			"one less than it was":    func(p []byte) []byte { return numberBytes(uvarint(p) - 1) },
			"nothing":                 func([]byte) []byte { return nil },
			"a number without an end": func([]byte) []byte { return bytes.Repeat([]byte{255}, 100) },
		} {
			pieces := s.pieces()
			pieces[i] = change(pieces[i])
			frame := sealed(bytes.Join(pieces, nil))
			if found, ok := decoded(frame); ok && found.broken() == nil {
				checkSound(t, what, frame)
			} else {
				checkRefused(t, fmt.Sprintf("%s in place of number %d", what, i), frame)
			}
		}
	}
}

func uvarint(piece []byte) uint64 {
	in := scan{rest: piece}
	return in.number()
}

// What says how much follows is no reason to make room for it.
func TestP1LoadOfGreatCountsEnds(t *testing.T) {
	head := "S\x06a+ / 5\x00\x05"
	for _, count := range []uint64{25, 1 << 20, 1 << 31, 1 << 40, 1<<63 - 1, 1 << 63, math.MaxUint64} {
		n := string(numberBytes(count))
		for _, body := range []string{"S" + n + "a+ / 5\x00\x05", head + n, head + n + "\x01a\x02", head + "\x00" + n, head + "\x00\x01\x00" + n + "\x01\x02\x03"} {
			checkRefused(t, "a count", sealed([]byte(body)))
		}
	}
}

func TestP11LongRuns(t *testing.T) {
	s := state{pattern: "a+ b / 10", watermark: 20, next: 200000}
	s.runs = []stateRun{{0, nil, 15}}
	for i := range uint64(100000) {
		s.runs[0].offsets = append(s.runs[0].offsets, 2*(100000-i)-1)
	}
	checkSound(t, "a long run", s.frame())
	e := loaded(t, s.frame())
	checkFeed(t, e, "b25", 200000, api.OK)
	matches, errno := e.Advance(25)
	if len(matches) != 1 || errno != api.OK || len(matches[0].Offsets) != 100001 || matches[0].Offsets[0] != 199999 || matches[0].Offsets[100000] != 200000 {
		t.Errorf("a long run gives %d matches, %d", len(matches), errno)
	}
	s.runs[0].offsets[99999] = 199999
	checkRefused(t, "a long run with an offset twice", s.frame())
}

// An engine goes on as its frame says, though no engine was in that state before.
func TestP11GoesOn(t *testing.T) {
	e := loaded(t, plain().frame())
	checkFeed(t, e, "b20", 0, api.ErrLate)
	checkAdvance(t, e, 19, "", api.ErrLate)
	checkFeed(t, e, "x21", 40, api.OK)
	checkFeed(t, e, "c23", 41, api.OK)
	checkAdvance(t, e, 20, "", api.OK)
	checkAdvance(t, e, 22, "", api.OK)
	checkAdvance(t, e, 23, "3 5 4 31 41@23, 3 5 4 41@23, 3 5 31 41@23, 3 5 41@23, 3 31 41@23, 9 31 41@23", api.OK)
	// 25 lies 12 behind the one of 13.
	checkAdvance(t, e, 25, "3 5 4 30@25, 3 5 4 31 30@25, 3 5 30@25, 3 5 31 30@25, 3 31 30@25", api.OK)
	want := state{pattern: "a b+ c / 10", watermark: 25, next: 42, runs: []stateRun{{0, []uint64{32}, 25}}}
	if got := e.Save(); !bytes.Equal(got, want.frame()) {
		t.Errorf("Save() = %x; want %x", got, want.frame())
	}
}

func TestP11FullEngines(t *testing.T) {
	s := state{pattern: "a b / 10", watermark: 20, next: 100}
	for i := range 12 {
		s.waiting = append(s.waiting, stateEvent{uint64(30 + i), 'b', int64(21 + i)})
	}
	for i := range 24 {
		s.runs = append(s.runs, stateRun{0, []uint64{uint64(i)}, int64(11 + i/12)})
	}
	e := loaded(t, s.frame())
	checkFeed(t, e, "a21", 0, api.ErrFull)
	checkFeed(t, e, "x21", 100, api.OK)
	matches, errno := e.Advance(21)
	if len(matches) != 24 || errno != api.OK {
		t.Errorf("Advance(21) gives %d matches, %d", len(matches), errno)
	}
	checkFeed(t, e, "a22", 101, api.OK)
	checkFeed(t, e, "a22", 0, api.ErrFull)
	// The twelve of 11 are gone at 22: 13 are under way there.
	matches, errno = e.Advance(22)
	if len(matches) != 12 || errno != api.OK {
		t.Errorf("Advance(22) gives %d matches, %d", len(matches), errno)
	}
	e = loaded(t, flatOf(24).frame())
	checkFeed(t, e, "a21", 100, api.OK)
	checkAdvance(t, e, 21, "", api.ErrFull)
	e = loaded(t, flatOf(23).frame())
	checkFeed(t, e, "a21", 100, api.OK)
	checkAdvance(t, e, 21, "", api.OK)
}

func flatOf(runs int) state {
	s := state{pattern: "a b / 10", watermark: 20, next: 100}
	for i := range runs {
		s.runs = append(s.runs, stateRun{0, []uint64{uint64(i)}, 20})
	}
	return s
}

// The document bounds the next offset of a frame, not that of an engine.
func TestP11GreatestOffsets(t *testing.T) {
	e := loaded(t, state{pattern: "a b / 10", watermark: 20, next: 1<<53 - 2}.frame())
	checkFeed(t, e, "a21", 1<<53-2, api.OK)
	checkSound(t, "the greatest next offset", e.Save())
	checkFeed(t, e, "b21", 1<<53-1, api.OK)
	checkRefused(t, "a next offset above that", e.Save())
	checkFeed(t, e, "b21", 1<<53, api.OK)
	checkAdvance(t, e, 21, "9007199254740990 9007199254740991@21, 9007199254740990 9007199254740992@21", api.OK)
}

func TestP2LoadNeitherWritesNorKeepsItsFrame(t *testing.T) {
	for _, s := range []state{plain(), flat(), same()} {
		room := append(make([]byte, 0, 1000), s.frame()...)
		copied := bytes.Clone(room[:cap(room)])
		e := loaded(t, room)
		if !bytes.Equal(room[:cap(room)], copied) {
			t.Errorf("%q: Load wrote into its frame", s.pattern)
		}
		overwrite(room)
		if got := e.Save(); !bytes.Equal(got, s.frame()) {
			t.Errorf("%q: the frame was written into, and the engine turned into %x", s.pattern, got)
		}
	}
	e := loaded(t, plain().frame())
	first := e.Save()
	overwrite(first)
	if got := e.Save(); !bytes.Equal(got, plain().frame()) {
		t.Errorf("a Save was written into, and the engine turned into %x", got)
	}
}

func TestP2LoadHangsOnItsFrameAlone(t *testing.T) {
	good, bad := plain().frame(), sealed([]byte("S\x05a / 5"))
	var group sync.WaitGroup
	for range 8 {
		group.Go(func() {
			for range 50 {
				checkSound(t, "side by side", good)
				checkRefused(t, "side by side", bad)
			}
		})
	}
	group.Wait()
}

func TestP2LoadedEnginesDoNotTouchEachOther(t *testing.T) {
	saved := newEngine(t, "a b+ / 10")
	feedAll(t, saved, "a1 b2 b5 a6")
	checkAdvance(t, saved, 3, "0 1@2", api.OK)
	frame := saved.Save()
	first, second := loaded(t, frame), loaded(t, frame)
	checkFeed(t, first, "b4", 4, api.OK)
	checkAdvance(t, first, 5, "0 1 4@4, 0 4@4, 0 1 2@5, 0 1 4 2@5, 0 2@5, 0 4 2@5", api.OK)
	for _, e := range []*spotter.Engine{saved, second} {
		if got := e.Save(); !bytes.Equal(got, frame) {
			t.Errorf("another engine went on, and this one turned into %x", got)
		}
		checkFeed(t, e, "x4", 4, api.OK)
		checkAdvance(t, e, 6, "0 1 2@5, 0 2@5", api.OK)
	}
	checkFeed(t, first, "b5", 0, api.ErrLate)
	checkAdvance(t, first, 6, "", api.OK)
}
