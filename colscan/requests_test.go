package colscan_test

import (
	"math"
	"strings"
	"testing"

	"colscan/api"
	"colscan/colscan"
)

// example is the document's file.
const example = "COL1\x01\x03\x05\x01\x01a\x01\x03\x04\x03\x78\xd1\xab\xc8\x00\x0bCOL1"

func TestScanExample(t *testing.T) {
	x := begin(t, example, "a", api.Settings{Window: 1, Tries: 2, Rows: 2})
	mustAsk(t, "Examples", x, "1@18+6")
	mustErr(t, "Examples", x.Answer(1, "\x00\x0bCOL1"), api.OK)
	mustAsk(t, "Examples", x, "2@7+11")
	mustErr(t, "Examples", x.Answer(2, example[7:18]), api.OK)
	mustAsk(t, "Examples", x, "3@4+3")
	mustErr(t, "Examples", x.Fail(3), api.OK)
	mustAsk(t, "Examples", x, "")
	x.Tick()
	mustAsk(t, "Examples", x, "4@4+3")
	mustErr(t, "Examples", x.Answer(4, "\x01\x03"), api.OK)
	mustAsk(t, "Examples", x, "5@6+1")
	mustHand(t, "Examples", x, "")
	mustErr(t, "Examples", x.Answer(5, "\x05"), api.OK)
	mustHand(t, "Examples", x, "[5 5]")
	mustState(t, "Examples", x, api.Going)
	mustHand(t, "Examples", x, "[5]")
	mustState(t, "Examples", x, api.Done)
}

func TestShortParts(t *testing.T) {
	x := begin(t, example, "a", api.Settings{Window: 1, Tries: 1, Rows: 3})
	for i := range 20 { // 6 bytes of the tail, 11 of the footer, 3 of the page
		list := x.Asked()
		if len(list) != 1 || list[0].Id != i+1 {
			t.Fatalf("P6: byte by byte, step %d: asked for %v", i, list)
		}
		place := list[0].Place
		mustErr(t, "P6", x.Answer(i+1, example[place:place+1]), api.OK)
	}
	mustHand(t, "P6: byte by byte", x, "[5 5 5]")
}

func TestShortPartsOfWindow(t *testing.T) {
	file, x := fourPages(t, api.Settings{Window: 3, Tries: 1, Rows: 4})
	mustAsk(t, "P7", x, "3@4+2 4@6+2 5@8+2")
	mustErr(t, "P6", x.Answer(4, file[6:7]), api.OK)
	mustAsk(t, "P6: the rest", x, "3@4+2 5@8+2 6@7+1")
	mustErr(t, "P6", x.Answer(3, file[4:5]), api.OK)
	mustAsk(t, "P6: the rest", x, "5@8+2 6@7+1 7@5+1")
	give(t, x, file, 6)
	mustAsk(t, "P6, P7", x, "5@8+2 7@5+1 8@10+2")
}

func TestAnswerRefused(t *testing.T) {
	x := begin(t, example, "a", api.Settings{Window: 1, Tries: 1, Rows: 1})
	for _, id := range []int{0, 2, 3, -1, math.MaxInt, math.MinInt} {
		mustErr(t, "P6: Answer to no request", x.Answer(id, "x"), api.ErrId)
		mustErr(t, "P6: an empty Answer to no request", x.Answer(id, ""), api.ErrId)
		mustErr(t, "P1: no request and too much data", x.Answer(id, "1234567"), api.ErrId)
		mustErr(t, "P6: Fail of no request", x.Fail(id), api.ErrId)
	}
	mustErr(t, "P6: data longer by one", x.Answer(1, "\x00\x0bCOL1x"), api.ErrData)
	mustErr(t, "P6: data far longer", x.Answer(1, strings.Repeat("x", 100000)), api.ErrData)
	mustAsk(t, "P1: nothing changed", x, "1@18+6")
	mustState(t, "P1: nothing changed", x, api.Going)
	give(t, x, example, 1)
	mustErr(t, "P6: an Answer once more", x.Answer(1, "x"), api.ErrId)
	mustErr(t, "P6: Fail of what was answered", x.Fail(1), api.ErrId)
	mustAsk(t, "P1: nothing changed", x, "2@7+11")
	mustErr(t, "P6", x.Answer(2, example[7:10]), api.OK)
	mustErr(t, "P6: longer than the rest", x.Answer(3, example[10:19]), api.ErrData)
	mustErr(t, "P6: Fail of what came short", x.Fail(2), api.ErrId)
	mustAsk(t, "P1: nothing changed", x, "3@10+8")
	give(t, x, example, 3)
	mustAsk(t, "P6", x, "4@4+3")
}

func TestFailedIsNoneUntilItIsDue(t *testing.T) {
	x := begin(t, example, "a", api.Settings{Window: 1, Tries: 3, Rows: 1})
	fail(t, x, 1)
	for _, id := range []int{1, 2} {
		mustErr(t, "P6: Answer while it waits", x.Answer(id, "x"), api.ErrId)
		mustErr(t, "P6: Fail while it waits", x.Fail(id), api.ErrId)
	}
	x.Tick()
	mustAsk(t, "P6", x, "2@18+6")
	mustErr(t, "P6: Answer to the one that failed", x.Answer(1, "x"), api.ErrId)
}

// waits fails what is asked for, and ticks until something is asked for again.
func waits(t *testing.T, x *colscan.Scan, want int) {
	t.Helper()
	fail(t, x, x.Asked()[0].Id)
	for i := range want {
		mustState(t, "P6: while it waits", x, api.Going)
		if len(x.Asked()) != 0 {
			t.Errorf("P6: asked for again behind %d ticks, want %d", i, want)
			return
		}
		x.Tick()
	}
	if len(x.Asked()) != 1 {
		t.Errorf("P6: not asked for again behind %d ticks", want)
	}
}

func TestWaits(t *testing.T) {
	x := begin(t, example, "a", api.Settings{Window: 1, Tries: 4, Rows: 3})
	for range 5 {
		x.Tick() // ticks ahead of the failing don't count
	}
	waits(t, x, 1)
	waits(t, x, 2)
	waits(t, x, 4)
	mustAsk(t, "P6", x, "4@18+6")
	give(t, x, example, 4)
	waits(t, x, 1)
	waits(t, x, 2)
	waits(t, x, 4)
	mustAsk(t, "P6: the footer has tries of its own", x, "8@7+11")
	give(t, x, example, 8)
	waits(t, x, 1)
	waits(t, x, 2)
	waits(t, x, 4)
	give(t, x, example, 12)
	mustHand(t, "P6: three failures of each", x, "[5 5 5]")
}

func TestTries(t *testing.T) {
	for tries := 1; tries <= api.MaxTries; tries++ {
		for stage := 1; stage <= 3; stage++ {
			x := begin(t, example, "a", api.Settings{Window: 1, Tries: tries, Rows: 3})
			for id := 1; id < stage; id++ {
				give(t, x, example, id)
			}
			for i := range tries - 1 {
				waits(t, x, 1<<i)
			}
			mustState(t, "P6: one try left", x, api.Going)
			fail(t, x, x.Asked()[0].Id)
			mustState(t, "P6: no try left", x, api.Unavailable)
			mustAsk(t, "P9", x, "")
		}
	}
}

// Parts that come in between don't give tries back.
func TestTriesOfOnePieceTogether(t *testing.T) {
	x := begin(t, example, "a", api.Settings{Window: 1, Tries: 3, Rows: 3})
	give(t, x, example, 1)
	waits(t, x, 1)
	mustErr(t, "P6", x.Answer(3, example[7:9]), api.OK)
	mustAsk(t, "P6", x, "4@9+9")
	waits(t, x, 2)
	mustAsk(t, "P6", x, "5@9+9")
	mustErr(t, "P6", x.Answer(5, example[9:17]), api.OK)
	mustErr(t, "P6: empty data is a failing", x.Answer(6, ""), api.OK)
	mustState(t, "P6", x, api.Unavailable)
}

func TestEmptyDataIsAFailing(t *testing.T) {
	x := begin(t, example, "a", api.Settings{Window: 1, Tries: 3, Rows: 3})
	mustErr(t, "P6", x.Answer(1, ""), api.OK)
	mustAsk(t, "P6", x, "")
	x.Tick()
	mustAsk(t, "P6", x, "2@18+6")
	mustErr(t, "P6", x.Answer(2, ""), api.OK)
	x.Tick()
	mustAsk(t, "P6", x, "")
	x.Tick()
	mustAsk(t, "P6", x, "3@18+6")
	mustErr(t, "P6", x.Answer(3, ""), api.OK)
	mustState(t, "P6", x, api.Unavailable)
}

func TestTriesOfEachPieceApart(t *testing.T) {
	file, x := fourPages(t, api.Settings{Window: 4, Tries: 2, Rows: 20})
	for id := 3; id <= 6; id++ {
		fail(t, x, id)
	}
	mustState(t, "P6: each failed once", x, api.Going)
	x.Tick()
	mustAsk(t, "P6", x, "7@4+2 8@6+2 9@8+2 10@10+2")
	for id := 7; id <= 10; id++ {
		give(t, x, file, id)
	}
	mustHand(t, "P6", x, "[1 2 3 4]")
}

// fourPages is a scan of a file of four groups of one row, 1 2 3 4, whose footer is there.
func fourPages(t *testing.T, s api.Settings) (string, *colscan.Scan) {
	t.Helper()
	file, _ := colscan.Write(table(names("a"), [][]int{{1}}, [][]int{{2}}, [][]int{{3}}, [][]int{{4}}))
	return file, footed(t, file, "a", s)
}

func TestDueInTheOrderOfFailing(t *testing.T) {
	_, x := fourPages(t, api.Settings{Window: 4, Tries: 4, Rows: 20})
	mustAsk(t, "P7", x, "3@4+2 4@6+2 5@8+2 6@10+2")
	for _, id := range []int{5, 3, 6, 4} {
		fail(t, x, id)
	}
	x.Tick()
	mustAsk(t, "P6: as they failed", x, "7@8+2 8@4+2 9@10+2 10@6+2")
	fail(t, x, 9) // the second failing: due behind two ticks
	x.Tick()
	mustAsk(t, "P6", x, "7@8+2 8@4+2 10@6+2")
	fail(t, x, 8) // the second failing: due one tick behind the other
	x.Tick()
	mustAsk(t, "P6", x, "7@8+2 10@6+2 11@10+2")
	x.Tick()
	mustAsk(t, "P6", x, "7@8+2 10@6+2 11@10+2 12@4+2")
}

func TestDueAtOneTickOfUnlikeWaits(t *testing.T) {
	_, x := fourPages(t, api.Settings{Window: 4, Tries: 4, Rows: 20})
	fail(t, x, 6)
	x.Tick()
	fail(t, x, 7) // the last piece waits for two ticks
	x.Tick()
	fail(t, x, 4) // and the second for one: both are due at the next
	fail(t, x, 3)
	x.Tick()
	mustAsk(t, "P6: as they failed", x, "5@8+2 8@10+2 9@6+2 10@4+2")
}

// Those that wait together for long keep their order over the ticks at which nothing is due.
func TestDueBehindLongWaits(t *testing.T) {
	_, x := fourPages(t, api.Settings{Window: 4, Tries: 4, Rows: 20})
	for _, id := range []int{5, 3, 6, 4} {
		fail(t, x, id)
	}
	x.Tick()
	for _, id := range []int{8, 10, 9, 7} {
		fail(t, x, id)
	}
	x.Tick()
	mustAsk(t, "P6: behind one tick", x, "")
	x.Tick()
	mustAsk(t, "P6: behind two ticks", x, "11@4+2 12@6+2 13@10+2 14@8+2")
	for _, id := range []int{13, 11, 14, 12} {
		fail(t, x, id)
	}
	for range 3 {
		x.Tick()
		mustAsk(t, "P6: ahead of four ticks", x, "")
	}
	x.Tick()
	mustAsk(t, "P6: behind four ticks", x, "15@10+2 16@4+2 17@8+2 18@6+2")
}

func TestTickAlone(t *testing.T) {
	x := begin(t, example, "a", api.Settings{Window: 1, Tries: 1, Rows: 1})
	for range 100 {
		x.Tick()
	}
	mustAsk(t, "P6: nothing was due", x, "1@18+6")
	mustState(t, "P6: nothing was due", x, api.Going)
}
