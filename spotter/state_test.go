package spotter_test

import (
	"bytes"
	"cmp"
	"encoding/binary"
	"hash/fnv"
	"math/big"
	"slices"
	"strconv"
	"strings"
	"unicode"

	"spotter/api"
)

// state is what a frame of the kind S holds. Its numbers are as wide as the bytes allow, so that wrong ones can be written too.
type state struct {
	pattern   string
	watermark int64
	next      uint64
	waiting   []stateEvent
	runs      []stateRun
}

type stateEvent struct {
	offset, kind uint64
	time         int64
}

type stateRun struct {
	step    uint64
	offsets []uint64
	first   int64
}

// sealed adds the sum: it is FNV-1a of 32 bits.
func sealed(body []byte) []byte {
	h := fnv.New32a()
	h.Write(body)
	return h.Sum(slices.Clone(body))
}

func numberBytes(n uint64) []byte { return binary.AppendUvarint(nil, n) }

// momentBytes: the signed numbers of encoding/binary are dealt out as moments are.
func momentBytes(t int64) []byte { return binary.AppendVarint(nil, t) }

// pieces are the kind, the pattern's length, the pattern, and then all numbers and moments one by one.
func (s state) pieces() [][]byte {
	out := [][]byte{[]byte("S"), numberBytes(uint64(len(s.pattern))), []byte(s.pattern), momentBytes(s.watermark), numberBytes(s.next)}
	out = append(out, numberBytes(uint64(len(s.waiting))))
	for _, ev := range s.waiting {
		out = append(out, numberBytes(ev.offset), numberBytes(ev.kind), momentBytes(ev.time))
	}
	out = append(out, numberBytes(uint64(len(s.runs))))
	for _, r := range s.runs {
		out = append(out, numberBytes(r.step), numberBytes(uint64(len(r.offsets))))
		for _, offset := range r.offsets {
			out = append(out, numberBytes(offset))
		}
		out = append(out, momentBytes(r.first))
	}
	return out
}

func (s state) frame() []byte { return sealed(bytes.Join(s.pieces(), nil)) }

func (s state) clone() state {
	s.waiting, s.runs = slices.Clone(s.waiting), slices.Clone(s.runs)
	for i := range s.runs {
		s.runs[i].offsets = slices.Clone(s.runs[i].offsets)
	}
	return s
}

// scan takes numbers off the front of bytes; short tells that there were too few.
type scan struct {
	rest  []byte
	short bool
}

func (s *scan) number() uint64 {
	n, size := binary.Uvarint(s.rest)
	s.skip(size)
	return n
}

func (s *scan) moment() int64 {
	n, size := binary.Varint(s.rest)
	s.skip(size)
	return n
}

func (s *scan) skip(size int) {
	if size <= 0 {
		s.short, s.rest = true, nil
		return
	}
	s.rest = s.rest[size:]
}

func (s *scan) text() string {
	n := s.number()
	if n > uint64(len(s.rest)) {
		s.short = true
		return ""
	}
	text := string(s.rest[:n])
	s.rest = s.rest[n:]
	return text
}

// decoded reads a frame; false, if writing what was read does not give the same bytes: so it finds longer numbers, wrong sums and bytes that follow.
func decoded(frame []byte) (state, bool) {
	if len(frame) < 5 {
		return state{}, false
	}
	in := scan{rest: frame[1 : len(frame)-4]}
	var s state
	s.pattern, s.watermark, s.next = in.text(), in.moment(), in.number()
	for n := in.number(); n > 0 && !in.short; n-- {
		s.waiting = append(s.waiting, stateEvent{in.number(), in.number(), in.moment()})
	}
	for n := in.number(); n > 0 && !in.short; n-- {
		r := stateRun{step: in.number()}
		for m := in.number(); m > 0 && !in.short; m-- {
			r.offsets = append(r.offsets, in.number())
		}
		r.first = in.moment()
		s.runs = append(s.runs, r)
	}
	return s, !in.short && bytes.Equal(s.frame(), frame)
}

// broken names the clauses of P10 that a state breaks, one after the other as the document has them.
func (s state) broken() []string {
	var out []string
	add := func(clause string, breaks bool) {
		if breaks && !slices.Contains(out, clause) {
			out = append(out, clause)
		}
	}
	canonical, errno := expected(s.pattern)
	add("pattern", errno != api.OK || canonical != s.pattern)
	add("next", s.next >= 1<<53)
	waits := map[uint64]int{}
	for i, ev := range s.waiting {
		waits[ev.offset]++
		add("offset", ev.offset >= s.next)
		add("waiting order", i > 0 && compareEvents(s.waiting[i-1], ev) > 0)
		add("waiting twice", waits[ev.offset] > 1)
		add("kind", ev.kind > unicode.MaxRune || !unicode.IsLetter(rune(ev.kind)) || !strings.ContainsRune(s.pattern, rune(ev.kind)))
		add("waiting late", ev.time <= s.watermark)
	}
	add("waiting many", len(s.waiting) > 12)
	add("runs many", len(s.runs) > 24)
	for i, r := range s.runs {
		add("runs order", i > 0 && compareRuns(s.runs[i-1], r) > 0)
		add("runs twice", slices.ContainsFunc(s.runs[:i], func(o stateRun) bool { return compareRuns(o, r) == 0 }))
		for at, offset := range r.offsets {
			add("offset", offset >= s.next)
			add("offset twice", slices.Contains(r.offsets[:at], offset))
			add("waits still", waits[offset] > 0)
		}
		s.addStepClauses(r, add)
		before := new(big.Int).Sub(big.NewInt(s.watermark), big.NewInt(r.first))
		add("first above", before.Sign() < 0)
		add("first early", before.Cmp(big.NewInt(windowOf(s.pattern))) >= 0)
	}
	return out
}

func (s state) addStepClauses(r stateRun, add func(string, bool)) {
	steps := strings.Fields(strings.Split(s.pattern, "/")[0])
	if r.step >= uint64(len(steps)) {
		add("step", true)
		return
	}
	upTo := steps[:r.step+1]
	add("go on", len(upTo) == len(steps) && !strings.HasSuffix(steps[r.step], "+"))
	add("few", len(r.offsets) < len(upTo))
	add("many", len(r.offsets) > len(upTo) && !strings.Contains(strings.Join(upTo, ""), "+"))
}

func compareEvents(a, b stateEvent) int {
	return cmp.Or(cmp.Compare(a.time, b.time), cmp.Compare(a.offset, b.offset))
}

func compareRuns(a, b stateRun) int {
	return cmp.Or(slices.Compare(a.offsets, b.offsets), cmp.Compare(a.step, b.step))
}

// windowOf is 0 of what is no pattern.
func windowOf(text string) int64 {
	window, _ := strconv.ParseInt(text[strings.LastIndex(text, " ")+1:], 10, 64)
	return window
}

// state is the frame that the document asks of an engine in the model's place: its runs are found anew, too.
func (m *model) state(canonical string) state {
	s := state{pattern: canonical, watermark: m.watermark, next: uint64(m.next)}
	for _, ev := range m.waiting {
		s.waiting = append(s.waiting, stateEvent{uint64(ev.offset), uint64(ev.Kind), ev.Time})
	}
	slices.SortFunc(s.waiting, compareEvents)
	for i, first := range m.processed {
		before := new(big.Int).Sub(big.NewInt(m.watermark), big.NewInt(first.Time))
		if before.Cmp(m.window) >= 0 {
			continue
		}
		for _, r := range m.runsFrom([]fedEvent{first}, m.processed[i+1:]) {
			if m.goOn[r.step] {
				s.runs = append(s.runs, r.state())
			}
		}
	}
	slices.SortFunc(s.runs, compareRuns)
	return s
}

func (r modelRun) state() stateRun {
	out := stateRun{step: uint64(r.step), first: r.list[0].Time}
	for _, ev := range r.list {
		out.offsets = append(out.offsets, uint64(ev.offset))
	}
	return out
}
