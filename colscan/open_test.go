package colscan_test

import (
	"math"
	"testing"

	"colscan/api"
	"colscan/colscan"
)

func TestOpenSettings(t *testing.T) {
	for _, c := range []struct {
		why   string
		size  int
		s     api.Settings
		right bool
	}{
		{"all least", 0, api.Settings{Window: 1, Tries: 1, Rows: 1, Gap: 0}, true},
		{"all greatest", api.MaxFile, api.Settings{Window: 4, Tries: 4, Rows: 20, Gap: 32}, true},
		{"size -1", -1, api.Settings{Window: 1, Tries: 1, Rows: 1}, false},
		{"the least size of all", math.MinInt, api.Settings{Window: 1, Tries: 1, Rows: 1}, false},
		{"size beyond", api.MaxFile + 1, api.Settings{Window: 1, Tries: 1, Rows: 1}, false},
		{"size far beyond", math.MaxInt, api.Settings{Window: 1, Tries: 1, Rows: 1}, false},
		{"Window 0", 24, api.Settings{Window: 0, Tries: 1, Rows: 1}, false},
		{"Window -1", 24, api.Settings{Window: -1, Tries: 1, Rows: 1}, false},
		{"Window 5", 24, api.Settings{Window: 5, Tries: 1, Rows: 1}, false},
		{"Tries 0", 24, api.Settings{Window: 1, Tries: 0, Rows: 1}, false},
		{"Tries -1", 24, api.Settings{Window: 1, Tries: -1, Rows: 1}, false},
		{"Tries 5", 24, api.Settings{Window: 1, Tries: 5, Rows: 1}, false},
		{"Rows 0", 24, api.Settings{Window: 1, Tries: 1, Rows: 0}, false},
		{"Rows -1", 24, api.Settings{Window: 1, Tries: 1, Rows: -1}, false},
		{"Rows 21", 24, api.Settings{Window: 1, Tries: 1, Rows: 21}, false},
		{"Gap -1", 24, api.Settings{Window: 1, Tries: 1, Rows: 1, Gap: -1}, false},
		{"Gap 33", 24, api.Settings{Window: 1, Tries: 1, Rows: 1, Gap: 33}, false},
		{"nothing set", 24, api.Settings{}, false},
		{"all far beyond", 24, api.Settings{Window: math.MaxInt, Tries: math.MaxInt, Rows: math.MaxInt, Gap: math.MaxInt}, false},
		{"all far below", 24, api.Settings{Window: math.MinInt, Tries: math.MinInt, Rows: math.MinInt, Gap: math.MinInt}, false},
		{"two errors at once", -1, api.Settings{Window: 5, Tries: 1, Rows: 1}, false},
		{"a size below 10 and an error", 9, api.Settings{Window: 1, Tries: 1, Rows: 1, Gap: 33}, false},
	} {
		for _, want := range [][]string{nil, {}, {"a"}, {"a", "a"}, {""}} {
			x, err := colscan.Open(c.size, want, c.s)
			if c.right && (x == nil || err != api.OK) || !c.right && (x != nil || err != api.ErrSettings) {
				t.Errorf("P5: %s: %v, error %d", c.why, x, err)
			}
		}
	}
}

func TestOpenSizes(t *testing.T) {
	for _, c := range []struct {
		size  int
		asks  string
		state int
	}{
		{0, "", api.Malformed},
		{5, "", api.Malformed},
		{9, "", api.Malformed},
		{10, "1@4+6", api.Going},
		{11, "1@5+6", api.Going},
		{24, "1@18+6", api.Going},
		{api.MaxFile, "1@3994+6", api.Going},
	} {
		x, err := colscan.Open(c.size, names("a"), api.Settings{Window: 4, Tries: 1, Rows: 1})
		if x == nil || err != api.OK {
			t.Fatalf("P5: size %d: error %d", c.size, err)
		}
		mustState(t, "P5", x, c.state)
		mustAsk(t, "P5", x, c.asks)
		mustHand(t, "P5", x, "")
	}
}

// A file of 10 bytes has no room for a footer, but that is known by its tail alone.
func TestOpenTenBytes(t *testing.T) {
	for _, tail := range []string{"\x00\x00COL1", "\x00\x01COL1"} {
		x := begin(t, "COL1"+tail, "a", api.Settings{Window: 1, Tries: 1, Rows: 1})
		give(t, x, "COL1"+tail, 1)
		mustState(t, "P4", x, api.Malformed)
		mustAsk(t, "P9", x, "")
	}
	x := begin(t, "COL1\x00\x00\x01COL1", "a", api.Settings{Window: 1, Tries: 1, Rows: 1})
	give(t, x, "COL1\x00\x00\x01COL1", 1)
	mustAsk(t, "P4: a footer of one byte", x, "2@4+1")
}

// What is wanted is looked at when the footer is there, and not before.
func TestOpenAnyWant(t *testing.T) {
	for _, want := range [][]string{nil, {""}, {"a", "a"}, {"a", "b", "c", "d", "e"}, {"123456789"}} {
		x, err := colscan.Open(24, want, api.Settings{Window: 1, Tries: 1, Rows: 1})
		if x == nil || err != api.OK {
			t.Fatalf("P5: Open of %q: error %d", want, err)
		}
		mustState(t, "P5", x, api.Going)
		mustAsk(t, "P5", x, "1@18+6")
	}
}
