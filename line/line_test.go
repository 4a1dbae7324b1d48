package line

import (
	"fmt"
	"strings"
	"testing"

	"colscan/api"
)

// log is what the Line called.
type log struct{ text string }

func (l *log) whole(data []byte) { l.text += "whole " + string(data) + "; " }

func (l *log) giveUp() { l.text += "gave up; " }

func mustAsk(t *testing.T, l *Line, want string) {
	t.Helper()
	var got []string
	for _, r := range l.Asked() {
		got = append(got, fmt.Sprintf("%d@%d+%d", r.Id, r.Place, r.Length))
	}
	if text := strings.Join(got, " "); text != want {
		t.Errorf("P6: asked for %s, want %s", text, want)
	}
}

func TestNothing(t *testing.T) {
	var l Line
	l.Tick()
	mustAsk(t, &l, "")
	if a, f := l.Answer(1, "a"), l.Fail(0); a != api.ErrId || f != api.ErrId {
		t.Errorf("P6: %d, %d", a, f)
	}
}

func TestShortAnswers(t *testing.T) {
	var out log
	l := New(1, out.giveUp)
	l.Fetch(10, 4, out.whole)
	mustAsk(t, &l, "1@10+4")
	l.Answer(1, "a")
	mustAsk(t, &l, "2@11+3")
	l.Answer(2, "bc")
	mustAsk(t, &l, "3@13+1")
	if out.text != "" {
		t.Errorf("P6: %s", out.text)
	}
	l.Answer(3, "d")
	mustAsk(t, &l, "")
	if out.text != "whole abcd; " {
		t.Errorf("P6: %s", out.text)
	}
}

func TestRefused(t *testing.T) {
	var out log
	l := New(2, out.giveUp)
	l.Fetch(10, 4, out.whole)
	for _, id := range []int{0, -1, 2} {
		if a, b, f := l.Answer(id, "abcde"), l.Answer(id, ""), l.Fail(id); a != api.ErrId || b != api.ErrId || f != api.ErrId {
			t.Errorf("P6: id %d: %d, %d, %d", id, a, b, f)
		}
	}
	if e := l.Answer(1, "abcde"); e != api.ErrData {
		t.Errorf("P6: %d", e)
	}
	l.Tick()
	mustAsk(t, &l, "1@10+4")
	if out.text != "" {
		t.Errorf("P6: %s", out.text)
	}
}

func TestDueInTheOrderOfFailing(t *testing.T) {
	var out log
	l := New(4, out.giveUp)
	for place := range 4 {
		l.Fetch(place, 1, out.whole)
	}
	// Part 3 fails first, and once more, so that it waits for two ticks from then on.
	l.Fail(4)
	l.Tick()
	mustAsk(t, &l, "1@0+1 2@1+1 3@2+1 5@3+1")
	l.Fail(5)
	l.Fail(2)
	l.Tick()
	mustAsk(t, &l, "1@0+1 3@2+1 6@1+1")
	l.Fail(3)
	l.Fail(1)
	l.Tick()
	mustAsk(t, &l, "6@1+1 7@3+1 8@2+1 9@0+1")
}

func TestGiveUp(t *testing.T) {
	for tries := 1; tries <= 4; tries++ {
		var out log
		l := New(tries, out.giveUp)
		l.Fetch(0, 9, out.whole)
		for failures := 1; failures < tries; failures++ {
			l.Answer(l.Asked()[0].Id, "a")
			l.Fail(l.Asked()[0].Id)
			for range 1 << (failures - 1) {
				mustAsk(t, &l, "")
				l.Tick()
			}
			if len(l.Asked()) != 1 || out.text != "" {
				t.Fatalf("P6: %d tries, %d failures: %v, %s", tries, failures, l.Asked(), out.text)
			}
		}
		l.Answer(l.Asked()[0].Id, "")
		if out.text != "gave up; " {
			t.Errorf("P6: %d tries: %s", tries, out.text)
		}
	}
}
