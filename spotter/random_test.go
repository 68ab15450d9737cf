package spotter_test

import (
	"fmt"
	"math"
	"math/rand"
	"sync"
	"testing"

	"spotter/api"
	"spotter/spotter"
)

// act is a call of Feed or, without an event, of Advance.
type act struct {
	feed   bool
	event  api.Event
	moment int64
}

func (a act) name() string {
	if a.feed {
		return "Feed"
	}
	return "Advance"
}

func (a act) String() string {
	if a.feed {
		return fmt.Sprintf("Feed(%c%d)", a.event.Kind, a.event.Time)
	}
	return fmt.Sprintf("Advance(%d)", a.moment)
}

func (a act) on(e *spotter.Engine) (string, api.Errno) {
	if a.feed {
		offset, errno := e.Feed(a.event)
		return fmt.Sprint(offset), errno
	}
	matches, errno := e.Advance(a.moment)
	return told(matches), errno
}

func (a act) onModel(m *model) (string, api.Errno) {
	if a.feed {
		offset, errno := m.feed(a.event)
		return fmt.Sprint(offset), errno
	}
	matches, errno := m.advance(a.moment)
	return told(matches), errno
}

func randomPattern(random *rand.Rand) string {
	text := ""
	letters := []string{"a", "b", "é"}[:1+random.Intn(3)]
	for range 1 + random.Intn(4) {
		text += letters[random.Intn(len(letters))]
		if random.Intn(3) == 0 {
			text += "+"
		}
		text += " "
	}
	return text + "/ " + []string{"0", "1", "2", "3", "5", "12", "9999"}[random.Intn(7)]
}

// randomActs keep near a moment that goes on slowly, so that windows, late moments and full lists are met often.
func randomActs(random *rand.Rand, start int64, length int) []act {
	kinds := []rune{'a', 'a', 'b', 'b', 'é', 'x'}
	near := start
	var acts []act
	for range length {
		moment := near + int64(random.Intn(6)) - 1
		if moment < near-1 { // wrapped round behind the last moment
			moment = math.MaxInt64
		}
		if random.Intn(3) > 0 {
			acts = append(acts, act{feed: true, event: api.Event{Kind: kinds[random.Intn(len(kinds))], Time: moment}})
			continue
		}
		acts = append(acts, act{moment: moment})
		near = moment
	}
	return acts
}

func starts() []int64 {
	return []int64{math.MinInt64 + 1, -7, 0, 1000, math.MaxInt64 - 25}
}

// All answers of an engine are those of a second description of it.
func TestP5ToP8AgainstTheModel(t *testing.T) {
	random := rand.New(rand.NewSource(2))
	met := map[string]int{}
	for i := range 10000 {
		text := randomPattern(random)
		e, m := newEngine(t, text), newModel(text)
		for at, a := range randomActs(random, starts()[i%len(starts())], 40) {
			want, wantErrno := a.onModel(m)
			got, errno := a.on(e)
			if got != want || errno != wantErrno {
				t.Fatalf("%q, act %d, %v = %q, %d; want %q, %d", text, at, a, got, errno, want, wantErrno)
			}
			met[a.name()+" "+fmt.Sprint(errno)]++
			if !a.feed && want != "" {
				met["matches"]++
			}
		}
	}
	for _, what := range []string{"Feed 0", "Feed 3", "Feed 4", "Advance 0", "Advance 3", "Advance 4", "matches"} {
		if met[what] < 200 {
			t.Errorf("%q was met %d times alone", what, met[what])
		}
	}
}

// An engine that is given the calls that were refused as well answers all others as one that is not.
func TestP1RefusedCallsChangeNothing(t *testing.T) {
	random := rand.New(rand.NewSource(3))
	refused := map[api.Errno]int{}
	for i := range 5000 {
		text := randomPattern(random)
		e, spared := newEngine(t, text), newEngine(t, text)
		for _, a := range randomActs(random, starts()[i%len(starts())], 60) {
			got, errno := a.on(e)
			if errno != api.OK {
				refused[errno]++
				if again, n := a.on(e); again != got || n != errno {
					t.Fatalf("%q: %v = %q, %d; then %q, %d", text, a, got, errno, again, n)
				}
				continue
			}
			if want, n := a.on(spared); got != want || n != api.OK {
				t.Fatalf("%q: %v = %q; without the refused calls %q, %d", text, a, got, want, n)
			}
		}
	}
	if refused[api.ErrLate] < 1000 || refused[api.ErrFull] < 1000 {
		t.Errorf("too few calls were refused: %v", refused)
	}
}

func randomTasks(random *rand.Rand, n int) (texts []string, tasks [][]act) {
	for i := range n {
		texts = append(texts, randomPattern(random))
		tasks = append(tasks, randomActs(random, starts()[i%len(starts())], 60))
	}
	return texts, tasks
}

func TestP2EnginesDoNotTouchEachOther(t *testing.T) {
	random := rand.New(rand.NewSource(4))
	for range 100 {
		texts, tasks := randomTasks(random, 10)
		texts[9], tasks[9] = texts[0], tasks[0] // two of one pattern, with the same events
		var engines []*spotter.Engine
		var models []*model
		for _, text := range texts {
			engines, models = append(engines, newEngine(t, text)), append(models, newModel(text))
		}
		for at := range tasks[0] {
			for i := range engines {
				want, wantErrno := tasks[i][at].onModel(models[i])
				if got, errno := tasks[i][at].on(engines[i]); got != want || errno != wantErrno {
					t.Fatalf("%q among others: %v = %q, %d; want %q, %d", texts[i], tasks[i][at], got, errno, want, wantErrno)
				}
			}
		}
	}
}

func TestP2EnginesSideBySide(t *testing.T) {
	texts, tasks := randomTasks(rand.New(rand.NewSource(5)), 100)
	var group sync.WaitGroup
	for i := range tasks {
		e, m := newEngine(t, texts[i]), newModel(texts[i])
		group.Go(func() {
			for _, a := range tasks[i] {
				want, wantErrno := a.onModel(m)
				if got, errno := a.on(e); got != want || errno != wantErrno {
					t.Errorf("%q: %v = %q, %d; want %q, %d", texts[i], a, got, errno, want, wantErrno)
				}
			}
		})
	}
	group.Wait()
}

// What was answered is written over and appended to at once: neither the engine nor another list of the answer may see it.
func TestP2AnswersAreTheCallers(t *testing.T) {
	random := rand.New(rand.NewSource(6))
	for range 3000 {
		text := randomPattern(random)
		e, m := newEngine(t, text), newModel(text)
		for _, a := range randomActs(random, 0, 60) {
			if a.feed {
				e.Feed(a.event)
				m.feed(a.event)
				continue
			}
			got, _ := e.Advance(a.moment)
			want, _ := m.advance(a.moment)
			for i := range got {
				if told(got[i:i+1]) != told(want[i:i+1]) {
					t.Fatalf("%q: match %d of %v is %v; want %v", text, i, a, got[i], want[i])
				}
				spoil(got[i].Offsets)
				got[i] = api.Match{}
			}
		}
	}
}

func spoil(list []int) {
	list = list[:cap(list)]
	for i := range list {
		list[i] = -1
	}
}
