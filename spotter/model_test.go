package spotter_test

import (
	"math"
	"math/big"
	"regexp"
	"slices"
	"strconv"
	"strings"

	"spotter/api"
)

// model is the document's engine once more: it keeps every event and finds all runs anew behind each, by regular expressions, so that it shares no way of working with the program.
type model struct {
	kinds     string
	forms     []*regexp.Regexp // of the kinds of a run at each step
	goOn      []bool
	window    *big.Int
	watermark int64
	next      int
	waiting   []fedEvent
	processed []fedEvent
}

type fedEvent struct {
	api.Event
	offset int
}

type modelRun struct {
	list []fedEvent
	step int
}

func newModel(canonical string) *model {
	parts := strings.Split(canonical, " / ")
	steps := strings.Split(parts[0], " ")
	window, _ := strconv.ParseInt(parts[1], 10, 64)
	m := &model{window: big.NewInt(window), watermark: math.MinInt64}
	form := "^"
	for i, step := range steps {
		form += step
		m.kinds += strings.TrimSuffix(step, "+")
		m.forms = append(m.forms, regexp.MustCompile(form+"$"))
		m.goOn = append(m.goOn, i < len(steps)-1 || strings.HasSuffix(step, "+"))
	}
	return m
}

func (m *model) feed(ev api.Event) (int, api.Errno) {
	if ev.Time <= m.watermark {
		return 0, api.ErrLate
	}
	if strings.ContainsRune(m.kinds, ev.Kind) {
		if len(m.waiting) == 12 {
			return 0, api.ErrFull
		}
		m.waiting = append(m.waiting, fedEvent{ev, m.next})
	}
	m.next++
	return m.next - 1, api.OK
}

func (m *model) advance(w int64) ([]api.Match, api.Errno) {
	if w < m.watermark {
		return nil, api.ErrLate
	}
	var due, later []fedEvent
	for _, ev := range m.waiting {
		if ev.Time <= w {
			due = append(due, ev)
		} else {
			later = append(later, ev)
		}
	}
	// They lie in the order of their offsets: a stable sort keeps it among those of one moment.
	slices.SortStableFunc(due, func(a, b fedEvent) int { return big.NewInt(a.Time).Cmp(big.NewInt(b.Time)) })
	processed := slices.Clone(m.processed)
	var matches []api.Match
	for _, ev := range due {
		processed = append(processed, ev)
		runs := m.runsAt(processed)
		if m.underWay(runs) > 24 {
			return nil, api.ErrFull
		}
		matches = append(matches, m.matchesOf(runs, ev)...)
	}
	m.processed, m.waiting, m.watermark = processed, later, w
	return matches, api.OK
}

// runsAt are all runs whose first event lies not further than the window before the last processed one.
func (m *model) runsAt(processed []fedEvent) []modelRun {
	now := processed[len(processed)-1]
	var out []modelRun
	for i, first := range processed {
		if m.near(first, now) {
			out = append(out, m.runsFrom([]fedEvent{first}, processed[i+1:])...)
		}
	}
	return out
}

// runsFrom are the runs that begin with a list. A list that is no run begins none.
func (m *model) runsFrom(list, rest []fedEvent) []modelRun {
	var kinds strings.Builder
	for _, ev := range list {
		kinds.WriteRune(ev.Kind)
	}
	var out []modelRun
	for step, form := range m.forms {
		if form.MatchString(kinds.String()) {
			out = append(out, modelRun{list, step})
		}
	}
	if out == nil {
		return nil
	}
	for i, ev := range rest {
		if m.near(list[0], ev) {
			out = append(out, m.runsFrom(append(slices.Clone(list), ev), rest[i+1:])...)
		}
	}
	return out
}

func (m *model) near(first, ev fedEvent) bool {
	return new(big.Int).Sub(big.NewInt(ev.Time), big.NewInt(first.Time)).Cmp(m.window) <= 0
}

func (m *model) underWay(runs []modelRun) int {
	n := 0
	for _, r := range runs {
		if m.goOn[r.step] {
			n++
		}
	}
	return n
}

func (m *model) matchesOf(runs []modelRun, last fedEvent) []api.Match {
	var out []api.Match
	for _, r := range runs {
		if r.step != len(m.forms)-1 || r.list[len(r.list)-1] != last {
			continue
		}
		match := api.Match{End: last.Time}
		for _, ev := range r.list {
			match.Offsets = append(match.Offsets, ev.offset)
		}
		out = append(out, match)
	}
	slices.SortFunc(out, func(a, b api.Match) int { return slices.Compare(a.Offsets, b.Offsets) })
	return out
}
