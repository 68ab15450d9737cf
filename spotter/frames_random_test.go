package spotter_test

import (
	"bytes"
	"fmt"
	"math"
	"math/rand"
	"slices"
	"testing"

	"spotter/api"
	"spotter/spotter"
)

func (m *model) clone() *model {
	out := *m
	out.waiting, out.processed = slices.Clone(m.waiting), slices.Clone(m.processed)
	return &out
}

// An engine that is saved and loaded again and again answers as the model, which is not, and so does the one that was saved.
func TestP11LoadedEnginesGoOnAsTheModel(t *testing.T) {
	random := rand.New(rand.NewSource(13))
	met := map[api.Errno]int{}
	for i := range 3000 {
		text := randomPattern(random)
		e, m := newEngine(t, text), newModel(text)
		engines := []*spotter.Engine{e}
		for at, a := range randomActs(random, starts()[i%len(starts())], 40) {
			want, wantErrno := a.onModel(m)
			for _, e := range engines {
				got, errno := a.on(e)
				if got != want || errno != wantErrno {
					t.Fatalf("%q, act %d, %v = %q, %d; want %q, %d", text, at, a, got, errno, want, wantErrno)
				}
				met[errno]++
			}
			if random.Intn(4) == 0 {
				newest := engines[len(engines)-1]
				e := loaded(t, newest.Save())
				if !bytes.Equal(e.Save(), newest.Save()) {
					t.Fatalf("%q, act %d: Save behind Load = %x; want %x", text, at, e.Save(), newest.Save())
				}
				engines = append(engines[max(0, len(engines)-2):], e)
			}
		}
	}
	if met[api.ErrLate] < 1000 || met[api.ErrFull] < 1000 {
		t.Errorf("too few errors were met: %v", met)
	}
}

// Behind Load the two engines go ways of their own.
func TestP2SavedAndLoadedEnginesDoNotTouchEachOther(t *testing.T) {
	random := rand.New(rand.NewSource(14))
	for i := range 1000 {
		text := randomPattern(random)
		start := starts()[i%len(starts())]
		e, m := newEngine(t, text), newModel(text)
		for _, a := range randomActs(random, start, 15) {
			a.on(e)
			a.onModel(m)
		}
		engines, models := []*spotter.Engine{e, loaded(t, e.Save())}, []*model{m, m.clone()}
		near := max(start, m.watermark)
		tasks := [][]act{randomActs(random, near, 20), randomActs(random, near, 20)}
		for at := range 20 {
			for j := range engines {
				a := tasks[j][at]
				want, wantErrno := a.onModel(models[j])
				if got, errno := a.on(engines[j]); got != want || errno != wantErrno {
					t.Fatalf("%q, engine %d: %v = %q, %d; want %q, %d", text, j, a, got, errno, want, wantErrno)
				}
			}
		}
	}
}

// randomState is what an engine behind a few calls holds.
func randomState(t *testing.T, random *rand.Rand) state {
	t.Helper()
	e := newEngine(t, randomPattern(random))
	for _, a := range randomActs(random, starts()[random.Intn(len(starts()))], 5+random.Intn(30)) {
		a.on(e)
	}
	s, ok := decoded(e.Save())
	if !ok {
		t.Fatalf("Save gives no frame: %x", e.Save())
	}
	return s
}

// nudged changes a number by a little, or makes it a great one.
func nudged(random *rand.Rand, n uint64) uint64 {
	switch random.Intn(8) {
	case 0:
		return []uint64{0, 1 << 32, 1<<53 - 1, 1 << 53, 1 << 63, math.MaxUint64}[random.Intn(6)]
	case 1:
		return n + 1<<32
	}
	return n + uint64(random.Intn(5)) - 2
}

func nudgedMoment(random *rand.Rand, t int64) int64 {
	if random.Intn(8) == 0 {
		return []int64{math.MinInt64, -1, 0, math.MaxInt64}[random.Intn(4)]
	}
	return t + int64(random.Intn(7)) - 3
}

func changeHead(random *rand.Rand, s *state) {
	switch random.Intn(3) {
	case 0:
		s.pattern = randomPattern(random)
	case 1:
		s.watermark = nudgedMoment(random, s.watermark)
	case 2:
		s.next = nudged(random, s.next)
	}
}

func changeWaiting(random *rand.Rand, s *state) {
	if len(s.waiting) == 0 {
		s.waiting = []stateEvent{{uint64(random.Intn(5)), 'a', nudgedMoment(random, s.watermark)}}
		return
	}
	i, j := random.Intn(len(s.waiting)), random.Intn(len(s.waiting))
	switch random.Intn(6) {
	case 0:
		s.waiting[i].offset = nudged(random, s.waiting[i].offset)
	case 1:
		s.waiting[i].kind = []uint64{'a', 'b', 'é', 'x', '+', 'a' + 1<<32}[random.Intn(6)]
	case 2:
		s.waiting[i].time = nudgedMoment(random, s.waiting[i].time)
	case 3:
		s.waiting[i], s.waiting[j] = s.waiting[j], s.waiting[i]
	case 4:
		s.waiting = slices.Insert(s.waiting, i, s.waiting[j])
	case 5:
		s.waiting = slices.Delete(s.waiting, i, i+1)
	}
}

func changeRuns(random *rand.Rand, s *state) {
	if len(s.runs) == 0 {
		s.runs = []stateRun{{uint64(random.Intn(4)), []uint64{uint64(random.Intn(5))}, nudgedMoment(random, s.watermark)}}
		return
	}
	i, j := random.Intn(len(s.runs)), random.Intn(len(s.runs))
	r := &s.runs[i]
	switch random.Intn(7) {
	case 0:
		r.step = nudged(random, r.step)
	case 1:
		r.first = nudgedMoment(random, r.first)
	case 2:
		s.runs[i], s.runs[j] = s.runs[j], s.runs[i]
	case 3:
		s.runs = slices.Insert(s.runs, i, s.runs[j])
	case 4:
		s.runs = slices.Delete(s.runs, i, i+1)
	case 5:
		r.offsets = append(r.offsets, uint64(random.Intn(int(s.next%100)+1)))
	case 6:
		if len(r.offsets) > 0 {
			at := random.Intn(len(r.offsets))
			r.offsets[at] = nudged(random, r.offsets[at])
		}
	}
}

// fill makes as many wait, and lets as many runs be under way, as there may be, or one or two more.
func fill(random *rand.Rand, s *state) {
	moment := s.watermark
	for _, ev := range s.waiting {
		moment = max(moment, ev.time)
	}
	for range 11 + random.Intn(4) - len(s.waiting) {
		moment = max(moment, moment+1)
		s.waiting = append(s.waiting, stateEvent{s.next, uint64([]rune(s.pattern)[0]), moment})
		s.next++
	}
	for range 23 + random.Intn(4) - len(s.runs) {
		s.runs = append(s.runs, stateRun{0, []uint64{s.next}, s.watermark})
		s.next++
	}
}

// changed spoils a state a little, so that it may be sound still.
func changed(random *rand.Rand, s state) state {
	s = s.clone()
	for range 1 + random.Intn(2) {
		[]func(*rand.Rand, *state){changeHead, changeWaiting, changeRuns, changeRuns, fill}[random.Intn(5)](random, &s)
	}
	return s
}

// changedBytes spoils a body, but not its sum.
func changedBytes(random *rand.Rand, frame []byte) []byte {
	body := bytes.Clone(frame[:len(frame)-4])
	for range 1 + random.Intn(2) {
		at := random.Intn(len(body))
		switch random.Intn(4) {
		case 0:
			body[at] = byte(random.Intn(256))
		case 1:
			body[at] += byte(random.Intn(5)) - 2
		case 2:
			body = slices.Insert(body, at, byte(random.Intn(256)))
		case 3:
			body = append(body[:at:at], body[min(at+1+random.Intn(3), len(body)):]...)
		}
		if len(body) == 0 {
			return sealed(body)
		}
	}
	return sealed(body)
}

// Load takes just the frames that a second description of P10 finds sound.
func TestP10AgainstASecondDescription(t *testing.T) {
	random := rand.New(rand.NewSource(15))
	met := map[string]int{}
	for range 8000 {
		s := randomState(t, random)
		frames := [][]byte{s.frame()}
		for range 8 {
			frames = append(frames, changed(random, s).frame(), changedBytes(random, s.frame()))
		}
		for _, frame := range frames {
			found, ok := decoded(frame)
			if !ok {
				met["no state"]++
				checkRefused(t, "no state", frame)
				continue
			}
			broken := found.broken()
			if broken == nil {
				met["sound"]++
				checkSound(t, "sound", frame)
				continue
			}
			checkRefused(t, fmt.Sprint(broken), frame)
			if len(broken) == 1 {
				met[broken[0]]++
			}
		}
	}
	clauses := []string{"pattern", "next", "offset", "waiting many", "waiting order", "waiting twice", "kind", "waiting late", "runs many",
		"runs order", "runs twice", "step", "go on", "few", "many", "offset twice", "waits still", "first above", "first early"}
	for _, clause := range append(clauses, "no state", "sound") {
		if met[clause] < 20 {
			t.Errorf("%q was met alone %d times", clause, met[clause])
		}
	}
}

// A sound state may be one that no engine was ever in: it goes on nevertheless, and what comes of it is sound and can be loaded again.
func TestP11SoundStatesGoOn(t *testing.T) {
	random := rand.New(rand.NewSource(16))
	tried := 0
	for range 6000 {
		s := changed(random, randomState(t, random))
		if s.broken() != nil {
			continue
		}
		tried++
		e := loaded(t, s.frame())
		for _, a := range randomActs(random, s.watermark, 20) {
			before := e.Save()
			again := loaded(t, before)
			got, errno := a.on(e)
			if want, n := a.on(again); got != want || errno != n {
				t.Fatalf("%x: %v = %q, %d; loaded again %q, %d", before, a, got, errno, want, n)
			}
			if !bytes.Equal(e.Save(), again.Save()) {
				t.Fatalf("%x: %v leads to %x; loaded again to %x", before, a, e.Save(), again.Save())
			}
			found, ok := decoded(e.Save())
			if broken := found.broken(); !ok || broken != nil && found.next < 1<<53 {
				t.Fatalf("%x: %v leads to %x, which breaks %v", before, a, e.Save(), broken)
			}
			if found.next >= 1<<53 {
				break
			}
		}
	}
	if tried < 1000 {
		t.Errorf("%d states alone were sound", tried)
	}
}
