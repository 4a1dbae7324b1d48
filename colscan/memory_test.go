package colscan_test

import (
	"math"
	"slices"
	"strings"
	"testing"
	"unsafe"

	"colscan/api"
	"colscan/colscan"
)

// scribble writes over a list and all the room that it has, and behind it.
func scribble[T any](list []T, with T) {
	whole := list[:cap(list)]
	for i := range whole {
		whole[i] = with
	}
	_ = append(list, with, with, with)
}

func TestAskedIsNewMemory(t *testing.T) {
	file, x := fourPages(t, api.Settings{Window: 4, Tries: 2, Rows: 1})
	fail(t, x, 4)
	first := x.Asked()
	second := x.Asked()
	scribble(first, api.Request{Id: 77, Place: 78, Length: 79})
	if !slices.Equal(second, []api.Request{{Id: 3, Place: 4, Length: 2}, {Id: 5, Place: 8, Length: 2}, {Id: 6, Place: 10, Length: 2}}) {
		t.Errorf("P2: two answers of Asked share room: %v", second)
	}
	mustAsk(t, "P2: a list that came out was written over", x, "3@4+2 5@8+2 6@10+2")
	mustErr(t, "P2: a list that came out was written over", x.Fail(77), api.ErrId)
	x.Tick()
	mustAsk(t, "P2: a list that came out was written over", x, "3@4+2 5@8+2 6@10+2 7@6+2")
	for _, id := range []int{7, 6, 5, 3} {
		list := x.Asked()
		give(t, x, file, id)
		scribble(list, api.Request{Id: -1})
	}
	mustHand(t, "P2", x, "[1]")
}

func TestNextIsNewMemory(t *testing.T) {
	file, _ := colscan.Write(table(names("a", "b"), [][]int{{1, 2, 3}, {4, 5, 6}}, [][]int{{7, 8, 9}, {10, 11, 12}}))
	x := footed(t, file, "a b", api.Settings{Window: 2, Tries: 1, Rows: 2})
	give(t, x, file, 3)
	give(t, x, file, 4)
	first := x.Next()
	lists := slices.Clone(first)
	scribble(lists[0], 77)
	if !slices.Equal(lists[1], []int{4, 5}) {
		t.Errorf("P2: two lists of one answer share room: %v", lists)
	}
	scribble(lists[1], 88)
	scribble(first, []int{99})
	second := x.Next()
	if len(second) != 2 || !slices.Equal(second[0], []int{3, 7}) || !slices.Equal(second[1], []int{6, 10}) {
		t.Errorf("P2: Next, when what it answered before was written over: %v", second)
	}
	scribble(second[0], 77)
	mustHand(t, "P2: what Next answered was written over", x, "[8 9][11 12]")
	if !slices.Equal(second[1], []int{6, 10}) {
		t.Errorf("P2: two lists of one answer share room: %v", second)
	}
}

func TestWantIsNotKept(t *testing.T) {
	file, _ := colscan.Write(table(names("a", "b", "c"), [][]int{{1}, {2}, {3}}))
	for stage := range 4 {
		want, around := roomy(names("c", "a"), "around")
		x, _ := colscan.Open(len(file), want, api.Settings{Window: 4, Tries: 1, Rows: 1})
		for id := 1; id <= 4; id++ {
			if id == stage+1 {
				want[0], want[1] = "q", "q"
				around[0] = "b"
			}
			give(t, x, file, id)
		}
		mustHand(t, "P2: want was written over", x, "[3][1]")
	}
}

func TestWantIsNotWrittenInto(t *testing.T) {
	file, _ := colscan.Write(table(names("a", "b", "c"), [][]int{{1}, {2}, {3}}))
	for _, list := range [][]string{{"c", "a", "b"}, {"c", "q"}, {"c", "c"}, {}, {"a", "b", "c", "d", "e"}} {
		want, around := roomy(list, "around")
		x, _ := colscan.Open(len(file), want, api.Settings{Window: 4, Tries: 1, Rows: 1, Gap: 32})
		for len(x.Asked()) > 0 {
			give(t, x, file, x.Asked()[0].Id)
		}
		x.Next()
		if _, before := roomy(list, "around"); !slices.Equal(around, before) {
			t.Errorf("P2: %v was left, where there was %v", around, before)
		}
	}
}

func TestAskedAndStateChangeNothing(t *testing.T) {
	file, x := fourPages(t, api.Settings{Window: 2, Tries: 2, Rows: 1})
	look := func(asks string) {
		for range 5 {
			mustAsk(t, "P2: asked once more", x, asks)
			mustState(t, "P2: asked once more", x, api.Going)
		}
	}
	look("3@4+2 4@6+2")
	fail(t, x, 3)
	look("4@6+2")
	x.Tick()
	look("4@6+2 5@4+2")
	give(t, x, file, 5)
	look("4@6+2 6@8+2")
	mustHand(t, "P2", x, "[1]")
	look("4@6+2 6@8+2")
}

// Two scans know nothing of each other.
func TestScansApart(t *testing.T) {
	file, x := fourPages(t, api.Settings{Window: 1, Tries: 2, Rows: 1})
	_, y := fourPages(t, api.Settings{Window: 2, Tries: 1, Rows: 2})
	fail(t, x, 3)
	mustAsk(t, "P2", y, "3@4+2 4@6+2")
	fail(t, y, 4)
	mustState(t, "P2", y, api.Unavailable)
	mustState(t, "P2", x, api.Going)
	x.Tick()
	give(t, x, file, 4)
	mustHand(t, "P2", x, "[1]")
}

func TestErrorsChangeNothing(t *testing.T) {
	file, x := fourPages(t, api.Settings{Window: 2, Tries: 2, Rows: 4})
	for range 3 {
		for _, id := range []int{math.MinInt, -1, 0, 1, 2, 5, math.MaxInt} {
			mustErr(t, "P6", x.Answer(id, "abc"), api.ErrId)
			mustErr(t, "P6", x.Answer(id, ""), api.ErrId)
			mustErr(t, "P6", x.Fail(id), api.ErrId)
		}
		mustErr(t, "P6", x.Answer(3, "abc"), api.ErrData)
		mustErr(t, "P6", x.Answer(4, strings.Repeat("\x00", 1<<20)), api.ErrData)
		mustAsk(t, "P1: nothing changed", x, "3@4+2 4@6+2")
		x.Tick()
	}
	for id := 3; id <= 6; id++ {
		give(t, x, file, id)
	}
	mustHand(t, "P1: nothing changed", x, "[1 2 3 4]")
}

// Open with an error answers nothing beside it, and a right one behind it is as ever.
func TestOpenRefusedLeavesNothing(t *testing.T) {
	if x, err := colscan.Open(-1, names("a"), api.Settings{}); x != nil || err != api.ErrSettings {
		t.Errorf("P1: %v beside error %d", x, err)
	}
	x := begin(t, example, "a", api.Settings{Window: 1, Tries: 1, Rows: 1})
	mustAsk(t, "P2: ids begin anew with each scan", x, "1@18+6")
}

func TestManyWanted(t *testing.T) {
	file, _ := colscan.Write(table(names("a"), [][]int{{1}}))
	many := slices.Repeat(names("a"), 1<<16)
	x, err := colscan.Open(len(file), many, api.Settings{Window: 1, Tries: 1, Rows: 1})
	mustErr(t, "P1: many names", err, api.OK)
	give(t, x, file, 1)
	give(t, x, file, 2)
	mustState(t, "P7: many names", x, api.BadColumn)
	x, err = colscan.Open(len(file), names(strings.Repeat("a", 1<<20)), api.Settings{Window: 1, Tries: 1, Rows: 1})
	mustErr(t, "P1: a long name", err, api.OK)
	give(t, x, file, 1)
	give(t, x, file, 2)
	mustState(t, "P7: a long name", x, api.BadColumn)
}

// lent is a text, and the bytes behind it: when these are written over, it shows whether the text was kept.
func lent(text string) (string, []byte) {
	behind := []byte(text)
	return unsafe.String(&behind[0], len(behind)), behind
}

func TestTextsAreNotKept(t *testing.T) {
	name, behindName := lent("a")
	x, _ := colscan.Open(len(example), names(name), api.Settings{Window: 1, Tries: 1, Rows: 3})
	behindName[0] = 'q'
	for len(x.Asked()) > 0 {
		q := x.Asked()[0]
		data, behind := lent(example[q.Place : q.Place+(q.Length+1)/2])
		mustErr(t, "P6", x.Answer(q.Id, data), api.OK)
		clear(behind)
	}
	mustHand(t, "P2: what was handed in was written over", x, "[5 5 5]")
}
