package colscan_test

import (
	"testing"

	"colscan/api"
	"colscan/colscan"
)

func TestPagesInAnyOrder(t *testing.T) {
	file := laid("\x00\x01\x02\xee\x00\x03\x04\xee\x00\x05\x06", manyNames(3)+"\x01\x02"+
		entry(4, "\x00\x01\x02")+entry(8, "\x00\x03\x04")+entry(12, "\x00\x05\x06"))
	for _, order := range [][]int{{3, 4, 5}, {3, 5, 4}, {4, 3, 5}, {4, 5, 3}, {5, 3, 4}, {5, 4, 3}} {
		x := footed(t, file, "b c a", api.Settings{Window: 3, Tries: 1, Rows: 2})
		mustAsk(t, "P7", x, "3@4+3 4@8+3 5@12+3")
		for _, id := range order {
			mustHand(t, "P9: not all of the group is there", x, "")
			give(t, x, file, id)
		}
		mustHand(t, "P9", x, "[3 4][5 6][1 2]")
		mustState(t, "P9", x, api.Done)
	}
}

func TestRowsAcrossGroups(t *testing.T) {
	file, _ := colscan.Write(table(names("a", "b"), [][]int{{1, 2, 3}, {11, 12, 13}}, [][]int{{4}, {14}}, [][]int{{5, 6}, {15, 16}}))
	for rows, want := range [][]string{
		1: {"[11][1]", "[12][2]", "[13][3]", "[14][4]", "[15][5]", "[16][6]"},
		2: {"[11 12][1 2]", "[13 14][3 4]", "[15 16][5 6]"},
		3: {"[11 12 13][1 2 3]", "[14 15 16][4 5 6]"},
		4: {"[11 12 13 14][1 2 3 4]", "[15 16][5 6]"},
		5: {"[11 12 13 14 15][1 2 3 4 5]", "[16][6]"},
		6: {"[11 12 13 14 15 16][1 2 3 4 5 6]"},
		7: {"[11 12 13 14 15 16][1 2 3 4 5 6]"},
	} {
		if rows == 0 {
			continue
		}
		x := footed(t, file, "b a", api.Settings{Window: 3, Tries: 1, Rows: rows})
		for id := 3; id <= 5; id++ {
			give(t, x, file, id)
		}
		for _, lists := range want {
			mustState(t, "P9: rows are left", x, api.Going)
			mustHand(t, "P9", x, lists)
		}
		mustState(t, "P9: no rows are left", x, api.Done)
		mustHand(t, "P9: no rows are left", x, "")
	}
}

func TestRowsOnlyWhenAllAreThere(t *testing.T) {
	file, _ := colscan.Write(table(names("a"), [][]int{{1, 2, 3}}, [][]int{{4}}, [][]int{{5, 6}}))
	x := footed(t, file, "a", api.Settings{Window: 3, Tries: 1, Rows: 2})
	give(t, x, file, 3)
	mustHand(t, "P9: three are there", x, "[1 2]")
	mustHand(t, "P9: one is there, and more are to come", x, "")
	give(t, x, file, 5)
	mustHand(t, "P9: one is there, one is missing, others are there", x, "")
	give(t, x, file, 4)
	mustHand(t, "P9", x, "[3 4]")
	mustHand(t, "P9", x, "[5 6]")
	mustState(t, "P9", x, api.Done)
}

// The last rows are fewer than asked for, but they are handed on only when they are all there.
func TestLastRowsWaitToo(t *testing.T) {
	file, _ := colscan.Write(table(names("a"), [][]int{{1, 2}}, [][]int{{3}}))
	x := footed(t, file, "a", api.Settings{Window: 2, Tries: 1, Rows: 20})
	give(t, x, file, 3)
	mustHand(t, "P9: the last is missing", x, "")
	give(t, x, file, 4)
	mustHand(t, "P9", x, "[1 2 3]")
	mustState(t, "P9", x, api.Done)
}

func TestNoRows(t *testing.T) {
	file, _ := colscan.Write(table(names("a")))
	x := begin(t, file, "a", api.Settings{Window: 1, Tries: 1, Rows: 1})
	give(t, x, file, 1)
	mustState(t, "P9: the footer is not there", x, api.Going)
	give(t, x, file, 2)
	mustState(t, "P9: no rows", x, api.Done)
	mustAsk(t, "P9: no rows", x, "")
	mustHand(t, "P9: no rows", x, "")
}

func TestNextAheadOfTheFooter(t *testing.T) {
	x := begin(t, example, "a", api.Settings{Window: 1, Tries: 1, Rows: 1})
	mustHand(t, "P9: ahead of the tail", x, "")
	mustState(t, "P9: ahead of the tail", x, api.Going)
	give(t, x, example, 1)
	mustHand(t, "P9: ahead of the footer", x, "")
	mustState(t, "P9: ahead of the footer", x, api.Going)
	give(t, x, example, 2)
	mustHand(t, "P9: ahead of the pages", x, "")
	mustState(t, "P9: ahead of the pages", x, api.Going)
}

// broken is a file of two groups, 1 2 and 3 4, the second of which has another sum.
func broken(t *testing.T) string {
	t.Helper()
	file, _ := colscan.Write(table(names("a"), [][]int{{1, 2}}, [][]int{{3, 4}}))
	return file[:9] + "\x05" + file[10:]
}

func TestPagesAreReadAsSoonAsTheyAreThere(t *testing.T) {
	file := broken(t)
	x := footed(t, file, "a", api.Settings{Window: 2, Tries: 1, Rows: 1})
	mustAsk(t, "P7", x, "3@4+3 4@7+3")
	mustErr(t, "P6", x.Answer(4, file[7:9]), api.OK)
	mustState(t, "P8: the piece is not whole", x, api.Going)
	give(t, x, file, 5)
	mustState(t, "P8: the piece is whole, though another one is ahead of it", x, api.Malformed)
}

// Rows that were there are not handed on when the scan has ended otherwise.
func TestMalformedHandsOnNothing(t *testing.T) {
	file := broken(t)
	x := footed(t, file, "a", api.Settings{Window: 2, Tries: 1, Rows: 1})
	give(t, x, file, 3)
	mustHand(t, "P9", x, "[1]")
	give(t, x, file, 4)
	mustState(t, "P8", x, api.Malformed)
	mustEnded(t, x, api.Malformed)
}

// A malformed page ends the scan wherever in its piece it is.
func TestMalformedWithinAPiece(t *testing.T) {
	for i := range 3 {
		pages := []string{"\x00\x01", "\x00\x02", "\x00\x03"}
		pages[i] = "\x03\x01"
		file := laid(pages[0]+pages[1]+pages[2], manyNames(3)+"\x01\x01"+entry(4, pages[0])+entry(6, pages[1])+entry(8, pages[2]))
		x := footed(t, file, "c b a", api.Settings{Window: 1, Tries: 1, Rows: 1})
		mustAsk(t, "P7", x, "3@4+6")
		give(t, x, file, 3)
		mustEnded(t, x, api.Malformed)
	}
}

// mustEnded tries all that might change a scan that has ended.
func mustEnded(t *testing.T, x *colscan.Scan, state int) {
	t.Helper()
	for _, change := range []func(){
		func() {}, x.Tick, x.Tick, x.Tick, x.Tick, x.Cancel, func() { x.Next() },
	} {
		change()
		for id := -1; id < 20; id++ {
			mustErr(t, "P9: Answer, behind the end", x.Answer(id, "x"), api.ErrId)
			mustErr(t, "P9: an empty Answer, behind the end", x.Answer(id, ""), api.ErrId)
			mustErr(t, "P9: Fail, behind the end", x.Fail(id), api.ErrId)
		}
		mustState(t, "P9: behind the end", x, state)
		mustAsk(t, "P9: behind the end", x, "")
		mustHand(t, "P9: behind the end", x, "")
	}
}

func TestEveryWayOfEnding(t *testing.T) {
	s := api.Settings{Window: 2, Tries: 1, Rows: 20}
	file, _ := colscan.Write(table(names("a"), [][]int{{1}}, [][]int{{2}}, [][]int{{3}}))

	x := footed(t, file, "a", s)
	for id := 3; id <= 5; id++ {
		give(t, x, file, id)
	}
	mustState(t, "P9: all is there, and nothing handed on", x, api.Going)
	mustHand(t, "P9", x, "[1 2 3]")
	mustEnded(t, x, api.Done)

	x = begin(t, "123456789", "a", s)
	mustEnded(t, x, api.Malformed)

	x = begin(t, file, "a", s)
	x.Answer(1, "xxxxxx")
	mustEnded(t, x, api.Malformed)

	x = begin(t, file, "a", s)
	give(t, x, file, 1)
	x.Answer(2, file[:x.Asked()[0].Length])
	mustEnded(t, x, api.Malformed)

	mustEnded(t, footed(t, file, "q", s), api.BadColumn)

	x = footed(t, file, "a", s)
	give(t, x, file, 3)
	fail(t, x, 4)
	mustEnded(t, x, api.Unavailable)
}

func TestUnavailableWithOthersWaiting(t *testing.T) {
	_, x := fourPages(t, api.Settings{Window: 4, Tries: 2, Rows: 1})
	fail(t, x, 3)
	x.Tick()
	fail(t, x, 4)
	fail(t, x, 7)
	mustEnded(t, x, api.Unavailable)
}

func TestCancel(t *testing.T) {
	for given := range 6 {
		file, x := fourPages(t, api.Settings{Window: 3, Tries: 2, Rows: 1})
		for id := 3; id < 3+min(given, 4); id++ {
			give(t, x, file, id)
		}
		if given == 5 {
			mustHand(t, "P9", x, "[1]")
		}
		x.Cancel()
		mustEnded(t, x, api.Cancelled)
	}
	x := begin(t, example, "a", api.Settings{Window: 1, Tries: 2, Rows: 1})
	x.Cancel()
	mustEnded(t, x, api.Cancelled)
	x = begin(t, example, "a", api.Settings{Window: 1, Tries: 2, Rows: 1})
	fail(t, x, 1)
	x.Cancel()
	mustEnded(t, x, api.Cancelled)
}
