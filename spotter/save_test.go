package spotter_test

import (
	"bytes"
	"encoding/hex"
	"math"
	"math/rand"
	"strings"
	"testing"

	"spotter/api"
	"spotter/spotter"
)

// checkSave compares with bytes that are written as hexadecimal, with spaces where it helps to read them, and without the sum.
func checkSave(t *testing.T, e *spotter.Engine, body string) {
	t.Helper()
	want, err := hex.DecodeString(strings.ReplaceAll(body, " ", ""))
	if err != nil {
		t.Fatal(err)
	}
	if got := e.Save(); !bytes.Equal(got, sealed(want)) {
		t.Errorf("Save() = %x; want %x", got, sealed(want))
	}
}

func TestP9Example(t *testing.T) {
	want := "530561202f2035ffffffffffffffffff010000002cee2abe"
	if got := hex.EncodeToString(newEngine(t, "a / 5").Save()); got != want {
		t.Errorf("Save() = %s; want %s", got, want)
	}
}

func TestP9NewEngines(t *testing.T) {
	least := "ffffffffffffffffff01"
	checkSave(t, newEngine(t, "  a/0 "), "53 05 61202f2030"+least+"00 00 00")
	checkSave(t, newEngine(t, "é+  𝒳/9999"), "53 0f c3a92b20f09d92b3202f2039393939"+least+"00 00 00")
	checkSave(t, newEngine(t, "𝒳+ 𝒳+ 𝒳+ 𝒳+/9999"), "53 1e"+strings.Repeat("f09d92b32b20", 4)+"2f2039393939"+least+"00 00 00")
}

// Events wait in the order in which they would be processed, whatever order they came in.
func TestP9WaitingEvents(t *testing.T) {
	e := newEngine(t, "a é / 5")
	feedAll(t, e, "a9 é7 x1 a-3 é7 a8 a7")
	checkSave(t, e, "53 08 6120c3a9202f2035 ffffffffffffffffff01 07"+
		"06 03 61 05  01 e901 0e  04 e901 0e  06 61 0e  05 61 10  00 61 12  00")
	checkAdvance(t, e, -4, "", api.OK)
	checkSave(t, e, "53 08 6120c3a9202f2035 07 07"+
		"06 03 61 05  01 e901 0e  04 e901 0e  06 61 0e  05 61 10  00 61 12  00")
	checkAdvance(t, e, 7, "", api.OK)
	checkSave(t, e, "53 08 6120c3a9202f2035 0e 07  02 05 61 10  00 61 12  01 00 01 06 0e")
}

func TestP9Runs(t *testing.T) {
	e := newEngine(t, "a b+ / 10")
	feedAll(t, e, "a1 b2 b3 a9")
	checkAdvance(t, e, 3, "0 1@2, 0 1 2@3, 0 2@3", api.OK)
	checkSave(t, e, "53 09 6120622b202f203130 06 04  01 03 61 12"+
		"04  00 01 00 02  01 02 00 01 02  01 03 00 01 02 02  01 02 00 02 02")
	// The watermark lies less than the window behind the first event, then just the window.
	checkAdvance(t, e, 10, "", api.OK)
	checkSave(t, e, "53 09 6120622b202f203130 14 04  00"+
		"05  00 01 00 02  01 02 00 01 02  01 03 00 01 02 02  01 02 00 02 02  00 01 03 12")
	checkAdvance(t, e, 11, "", api.OK)
	checkSave(t, e, "53 09 6120622b202f203130 16 04  00  01 00 01 03 12")
	checkAdvance(t, e, 19, "", api.OK)
	checkSave(t, e, "53 09 6120622b202f203130 26 04  00  00")
}

// One list may be under way at two steps; a run that cannot go on is not under way.
func TestP9RunsOfOneList(t *testing.T) {
	e := newEngine(t, "a+ a+ a / 9")
	feedAll(t, e, "a3 a2 a1")
	checkAdvance(t, e, 3, "2 1 0@3", api.OK)
	checkSave(t, e, "53 0b 612b20612b2061202f2039 06 03 00 0b"+
		"00 01 00 06"+
		"00 01 01 04  00 02 01 00 04  01 02 01 00 04"+
		"00 01 02 02  00 02 02 00 02  01 02 02 00 02  00 02 02 01 02  01 02 02 01 02"+
		"00 03 02 01 00 02  01 03 02 01 00 02")
}

func TestP9NothingUnderWayInWindowZero(t *testing.T) {
	e := newEngine(t, "a+ b / 0")
	feedAll(t, e, "a1 a1")
	checkAdvance(t, e, 1, "", api.OK)
	checkSave(t, e, "53 08 612b2062202f2030 02 02 00 00")
}

func TestP9NumbersOfOneByteAndOfTwo(t *testing.T) {
	for _, c := range []struct {
		fed  int
		want string
	}{{0, "00"}, {1, "01"}, {127, "7f"}, {128, "8001"}, {255, "ff01"}, {300, "ac02"}, {16383, "ff7f"}, {16384, "808001"}} {
		e := newEngine(t, "a / 5")
		for range c.fed {
			checkOK(t, e, 'x', 1)
		}
		checkSave(t, e, "53 05 61202f2035 ffffffffffffffffff01"+c.want+"00 00")
	}
	// as offsets, too
	e := newEngine(t, "a b / 5")
	for range 127 {
		checkOK(t, e, 'x', 1)
	}
	feedAll(t, e, "a1 a1 a2 b2")
	checkAdvance(t, e, 1, "", api.OK)
	checkSave(t, e, "53 07 612062202f2035 02 8301  02 8101 61 04 8201 62 04  02 00 01 7f 02 00 01 8001 02")
}

func TestP9Moments(t *testing.T) {
	for _, c := range []struct {
		moment int64
		want   string
	}{
		{0, "00"}, {-1, "01"}, {1, "02"}, {-2, "03"}, {63, "7e"}, {-64, "7f"}, {64, "8001"}, {-65, "8101"},
		{math.MaxInt64, "feffffffffffffffff01"}, {math.MaxInt64 - 1, "fcffffffffffffffff01"},
		{1 << 62, "80808080808080808001"}, {1<<62 - 1, "feffffffffffffff7f"}, {-1 << 62, "ffffffffffffffff7f"}, {-1<<62 - 1, "81808080808080808001"},
		{math.MinInt64, "ffffffffffffffffff01"}, {math.MinInt64 + 1, "fdffffffffffffffff01"},
	} {
		// as the watermark
		e := newEngine(t, "a b / 5")
		checkAdvance(t, e, c.moment, "", api.OK)
		checkSave(t, e, "53 07 612062202f2035"+c.want+"00 00 00")
		if c.moment == math.MinInt64 {
			continue
		}
		// as that of a waiting event
		e = newEngine(t, "a b / 5")
		checkOK(t, e, 'b', c.moment)
		checkSave(t, e, "53 07 612062202f2035 ffffffffffffffffff01 01  01 00 62"+c.want+"00")
		// as that of a first event
		e = newEngine(t, "a b / 5")
		checkOK(t, e, 'a', c.moment)
		checkAdvance(t, e, c.moment, "", api.OK)
		checkSave(t, e, "53 07 612062202f2035"+c.want+"01 00  01 00 01 00"+c.want)
	}
}

// Behind every call Save gives what the model says, and asking for it changes nothing.
func TestP9AgainstTheModel(t *testing.T) {
	random := rand.New(rand.NewSource(11))
	withRuns, withEvents := 0, 0
	for i := range 2500 {
		text := randomPattern(random)
		e, m := newEngine(t, text), newModel(text)
		for at, a := range randomActs(random, starts()[i%len(starts())], 40) {
			a.onModel(m)
			a.on(e)
			s := m.state(text)
			if want, got := s.frame(), e.Save(); !bytes.Equal(got, want) {
				t.Fatalf("%q, behind act %d, %v: Save() = %x; want %x", text, at, a, got, want)
			}
			if len(s.runs) > 2 {
				withRuns++
			}
			if len(s.waiting) > 2 {
				withEvents++
			}
		}
	}
	if withRuns < 1000 || withEvents < 1000 {
		t.Errorf("too few states had runs (%d) or waiting events (%d)", withRuns, withEvents)
	}
}

func TestP1RefusedCallsChangeNoByte(t *testing.T) {
	random := rand.New(rand.NewSource(12))
	refused := map[api.Errno]int{}
	for i := range 2000 {
		e := newEngine(t, randomPattern(random))
		for _, a := range randomActs(random, starts()[i%len(starts())], 60) {
			before := e.Save()
			if _, errno := a.on(e); errno != api.OK {
				refused[errno]++
				if after := e.Save(); !bytes.Equal(before, after) {
					t.Fatalf("%v was refused, but changed %x to %x", a, before, after)
				}
			}
		}
	}
	if refused[api.ErrLate] < 1000 || refused[api.ErrFull] < 1000 {
		t.Errorf("too few calls were refused: %v", refused)
	}
}

func TestP2WhatSaveGivesIsTheCallers(t *testing.T) {
	e := newEngine(t, "a b+ / 10")
	feedAll(t, e, "a1 b2 b5 b4")
	checkAdvance(t, e, 3, "0 1@2", api.OK)
	first, second := e.Save(), e.Save()
	want := bytes.Clone(first)
	overwrite(first)
	if !bytes.Equal(second, want) {
		t.Errorf("one Save was written into and the other turned into %x", second)
	}
	if got := e.Save(); !bytes.Equal(got, want) {
		t.Errorf("a Save was written into and the engine turned into %x", got)
	}
	checkAdvance(t, e, 4, "0 1 3@4, 0 3@4", api.OK)
}

// overwrite spoils what lies behind the bytes, too: an append would be kept there.
func overwrite(list []byte) {
	list = list[:cap(list)]
	for i := range list {
		list[i] = 0xAA
	}
}
