package colscan_test

import (
	"strings"
	"testing"

	"colscan/api"
	"colscan/colscan"
)

func TestBadColumn(t *testing.T) {
	file, _ := colscan.Write(table(names("a", "b", "12345678"), [][]int{{1}, {2}, {3}}))
	for _, want := range [][]string{
		nil, {}, {"q"}, {""}, {"A"}, {"a", "q"}, {"q", "a"}, {"a", ""}, {"a", "a"}, {"a", "b", "a"}, {"q", "q"},
		{"a", "b", "12345678", "q"}, {"a", "b", "12345678", "a", "b"}, {"123456789"}, {"1234567"}, {"ab"}, {"a\x00"},
	} {
		x, _ := colscan.Open(len(file), want, api.Settings{Window: 4, Tries: 1, Rows: 1})
		give(t, x, file, 1)
		mustState(t, "P7: ahead of the footer", x, api.Going)
		give(t, x, file, 2)
		if x.State() != api.BadColumn {
			t.Errorf("P7: %q wanted: state %d, want BadColumn", want, x.State())
		}
		mustAsk(t, "P9: a scan that has ended", x, "")
		mustHand(t, "P9: a scan that has ended", x, "")
	}
	mustRead(t, "P7: all wanted", file, "12345678 a b", "[3][1][2]")
}

// BadColumn is told ahead of there being no rows.
func TestBadColumnWithoutRows(t *testing.T) {
	file, _ := colscan.Write(table(names("a", "b")))
	mustEnd(t, "P7: nothing wanted", file, "", api.BadColumn)
	mustEnd(t, "P7: no column's name", file, "q", api.BadColumn)
	mustEnd(t, "P7: two the same", file, "b b", api.BadColumn)
	mustRead(t, "P9: no rows", file, "b", "")
}

// spread is a file of one group of one row, with pages of the values 1, 2, 3 .. at these places, in columns a, b, c ..; a page is as long as said, which it is malformed by unless that is 2.
func spread(t *testing.T, placesAndLengths ...int) string {
	t.Helper()
	end := 4
	for i := 0; i < len(placesAndLengths); i += 2 {
		end = max(end, placesAndLengths[i]+placesAndLengths[i+1])
	}
	pages := []byte(strings.Repeat("\xee", end-4))
	for i := 0; i < len(placesAndLengths); i += 2 {
		copy(pages[placesAndLengths[i]-4:], "\x00"+string(rune(i/2+1)))
	}
	footer := manyNames(len(placesAndLengths)/2) + "\x01\x01"
	for i := 0; i < len(placesAndLengths); i += 2 {
		place, length := placesAndLengths[i], placesAndLengths[i+1]
		footer += entry(place, string(pages[place-4:place-4+length]))
	}
	return laid(string(pages), footer)
}

func TestJoin(t *testing.T) {
	for _, c := range []struct {
		why, want string
		gap       int
		pages     []int
		asks      string
	}{
		{"no gap", "a b", 0, []int{4, 2, 6, 2}, "3@4+4"},
		{"a gap of 1 where 0 is set", "a b", 0, []int{4, 2, 7, 2}, "3@4+2 4@7+2"},
		{"a gap of just that", "a b", 5, []int{4, 2, 11, 2}, "3@4+9"},
		{"a gap of one more", "a b", 5, []int{4, 2, 12, 2}, "3@4+2 4@12+2"},
		{"a gap of just MaxGap", "a b", 32, []int{4, 2, 38, 2}, "3@4+36"},
		{"a gap of one more than MaxGap", "a b", 32, []int{4, 2, 39, 2}, "3@4+2 4@39+2"},
		{"by their places, not as wanted", "b a", 0, []int{4, 2, 7, 2}, "3@4+2 4@7+2"},
		{"by their places, not as in the footer", "a b", 0, []int{7, 2, 4, 2}, "3@4+2 4@7+2"},
		{"three in one", "c a b", 1, []int{4, 2, 7, 2, 10, 2}, "3@4+8"},
		{"two, and one apart", "c a b", 1, []int{4, 2, 7, 2, 11, 2}, "3@4+5 4@11+2"},
		{"one, and two apart", "c a b", 1, []int{4, 2, 8, 2, 11, 2}, "3@4+2 4@8+5"},
		{"just MaxRange", "a b", 0, []int{4, 62, 66, 2}, "3@4+64"},
		{"one beyond MaxRange", "a b", 0, []int{4, 63, 67, 2}, "3@4+63 4@67+2"},
		{"just MaxRange by a gap", "a b c", 32, []int{4, 2, 36, 2, 66, 2}, "3@4+64"},
		{"one beyond MaxRange by a gap", "a b c", 32, []int{4, 2, 36, 2, 67, 2}, "3@4+34 4@67+2"},
		{"what did not fit begins a piece", "a b c", 0, []int{4, 60, 64, 6, 70, 2}, "3@4+60 4@64+8"},
		{"a page of just MaxRange", "a b", 0, []int{4, 64, 68, 2}, "3@4+64 4@68+2"},
		{"a page beyond MaxRange", "a", 0, []int{4, 65}, "3@4+65"},
		{"a page far beyond MaxRange", "a b", 32, []int{4, 500, 504, 2}, "3@4+500 4@504+2"},
		{"over one another", "a b", 0, []int{4, 5, 6, 5}, "3@4+7"},
		{"one within the other", "a b", 0, []int{4, 9, 6, 2}, "3@4+9"},
		{"behind the greatest end, not the last", "a b c", 1, []int{4, 20, 6, 2, 25, 2}, "3@4+23"},
		{"within one of just MaxRange", "a b", 0, []int{4, 64, 6, 2}, "3@4+64"},
		{"within one beyond MaxRange", "a b", 0, []int{4, 65, 6, 2}, "3@4+65 4@6+2"},
		{"at the same place, the longer as wanted", "b a", 0, []int{4, 2, 4, 9}, "3@4+9"},
		{"at the same place, one beyond MaxRange first", "b a", 0, []int{4, 2, 4, 65}, "3@4+65 4@4+2"},
		{"at the same place, one beyond MaxRange last", "a b", 0, []int{4, 2, 4, 65}, "3@4+2 4@4+65"},
	} {
		x := footed(t, spread(t, c.pages...), c.want, api.Settings{Window: 4, Tries: 1, Rows: 1, Gap: c.gap})
		mustAsk(t, "P7: "+c.why, x, c.asks)
	}
}

func TestJoinedPagesAreRead(t *testing.T) {
	file := spread(t, 11, 2, 4, 2, 20, 2)
	x := footed(t, file, "c a b", api.Settings{Window: 1, Tries: 1, Rows: 1, Gap: 7})
	mustAsk(t, "P7", x, "3@4+18")
	give(t, x, file, 3)
	mustHand(t, "P8: joined pages", x, "[3][1][2]")
	mustState(t, "P9", x, api.Done)
}

func TestPagesOverOneAnother(t *testing.T) {
	// a: 00 01 02 (1, 2); b: 01 02 03 (3, 3); c: 02 03 00 (3, 3); a and d are the same page.
	pages := "\x00\x01\x02\x03\x00"
	file := laid(pages, manyNames(4)+"\x01\x02"+entry(4, pages[:3])+entry(5, pages[1:4])+entry(6, pages[2:])+entry(4, pages[:3]))
	x := footed(t, file, "c d b a", api.Settings{Window: 1, Tries: 1, Rows: 2})
	mustAsk(t, "P7", x, "3@4+5")
	give(t, x, file, 3)
	mustHand(t, "P8: pages over one another", x, "[3 3][1 2][3 3][1 2]")
}

func TestGroupsAreNotJoined(t *testing.T) {
	file, _ := colscan.Write(table(names("a", "b"), [][]int{{1}, {2}}, [][]int{{3}, {4}}))
	x := footed(t, file, "b a", api.Settings{Window: 4, Tries: 1, Rows: 1, Gap: 32})
	mustAsk(t, "P7: groups are not joined", x, "3@4+4 4@8+4")
}

// Groups come in their order, wherever their pages are.
func TestGroupsInOrder(t *testing.T) {
	file := laid("\x00\x07\x00\x09", "\x01\x01a\x02\x01"+entry(6, "\x00\x09")+"\x01"+entry(4, "\x00\x07"))
	x := footed(t, file, "a", api.Settings{Window: 4, Tries: 1, Rows: 1, Gap: 32})
	mustAsk(t, "P7: groups in order", x, "3@6+2 4@4+2")
	give(t, x, file, 4)
	mustHand(t, "P9: groups in order", x, "")
	give(t, x, file, 3)
	mustHand(t, "P9: groups in order", x, "[9]")
	mustHand(t, "P9: groups in order", x, "[7]")
}

func TestWindows(t *testing.T) {
	for window, asks := range []string{"", "3@4+2", "3@4+2 4@6+2", "3@4+2 4@6+2 5@8+2", "3@4+2 4@6+2 5@8+2 6@10+2"} {
		if window > 0 {
			_, x := fourPages(t, api.Settings{Window: window, Tries: 1, Rows: 1})
			mustAsk(t, "P7", x, asks)
		}
	}
}

func TestWindowMovesOn(t *testing.T) {
	file, x := fourPages(t, api.Settings{Window: 2, Tries: 2, Rows: 1})
	give(t, x, file, 4)
	mustAsk(t, "P7: the next one", x, "3@4+2 5@8+2")
	give(t, x, file, 5)
	mustAsk(t, "P7: the next one", x, "3@4+2 6@10+2")
	give(t, x, file, 6)
	mustAsk(t, "P7: none is left", x, "3@4+2")
	mustHand(t, "P9", x, "")
	give(t, x, file, 3)
	mustAsk(t, "P7: none is left", x, "")
	for _, want := range []string{"[1]", "[2]", "[3]", "[4]", ""} {
		mustHand(t, "P9", x, want)
	}
}

func TestWindowCountsWhatWaits(t *testing.T) {
	file, x := fourPages(t, api.Settings{Window: 2, Tries: 4, Rows: 4})
	fail(t, x, 3)
	mustAsk(t, "P7: one waits", x, "4@6+2")
	give(t, x, file, 4)
	mustAsk(t, "P7: one waits", x, "5@8+2")
	fail(t, x, 5)
	mustAsk(t, "P7: two wait", x, "")
	x.Tick()
	mustAsk(t, "P7", x, "6@4+2 7@8+2")
	give(t, x, file, 7)
	mustAsk(t, "P7", x, "6@4+2 8@10+2")
	fail(t, x, 6)
	give(t, x, file, 8)
	mustAsk(t, "P7: one waits, and none is left", x, "")
	x.Tick()
	mustAsk(t, "P7: one waits, and none is left", x, "")
	x.Tick()
	mustAsk(t, "P7", x, "9@4+2")
	give(t, x, file, 9)
	mustHand(t, "P9", x, "[1 2 3 4]")
}

// A part that comes short takes no more room than it had.
func TestWindowOfShortParts(t *testing.T) {
	file, x := fourPages(t, api.Settings{Window: 1, Tries: 1, Rows: 4})
	for id := 3; id <= 10; id++ {
		list := x.Asked()
		if len(list) != 1 || list[0].Id != id {
			t.Fatalf("P7: %v, want request %d alone", list, id)
		}
		mustErr(t, "P6", x.Answer(id, file[list[0].Place:list[0].Place+1]), api.OK)
	}
	mustHand(t, "P9", x, "[1 2 3 4]")
}

// Handing on has nothing to do with asking: what is there makes room, handed on or not.
func TestNextDoesNotAsk(t *testing.T) {
	file, x := fourPages(t, api.Settings{Window: 1, Tries: 1, Rows: 1})
	give(t, x, file, 3)
	mustAsk(t, "P7", x, "4@6+2")
	mustHand(t, "P9", x, "[1]")
	mustAsk(t, "P7", x, "4@6+2")
}
