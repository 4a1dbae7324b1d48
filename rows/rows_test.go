package rows

import (
	"fmt"
	"testing"
)

func told(lists [][]int) string {
	if lists == nil {
		return ""
	}
	return fmt.Sprint(lists)
}

func mustHandOn(t *testing.T, r *Rows, most int, want string) {
	t.Helper()
	if got := told(r.Next(most)); got != want {
		t.Errorf("P9: Next(%d): %s, want %s", most, got, want)
	}
}

func TestNoRows(t *testing.T) {
	var none Rows
	mustHandOn(t, &none, 20, "")
	empty := New(2, nil)
	mustHandOn(t, &empty, 20, "")
	if empty.Left() != 0 {
		t.Errorf("P9: %d rows left of none", empty.Left())
	}
}

func TestNextWaitsForAll(t *testing.T) {
	r := New(2, []int{3, 2})
	mustHandOn(t, &r, 2, "")
	r.Put(0, 1, []int{4, 5, 6})
	mustHandOn(t, &r, 2, "")
	r.Put(1, 0, []int{7, 8})
	r.Put(1, 1, []int{9, 10})
	mustHandOn(t, &r, 2, "")
	r.Put(0, 0, []int{1, 2, 3})
	mustHandOn(t, &r, 2, "[[1 2] [4 5]]")
	mustHandOn(t, &r, 2, "[[3 7] [6 9]]")
	mustHandOn(t, &r, 2, "[[8] [10]]")
	mustHandOn(t, &r, 2, "")
}

func TestNextAcrossGroups(t *testing.T) {
	r := New(1, []int{2, 1, 3})
	r.Put(0, 0, []int{1, 2})
	mustHandOn(t, &r, 3, "")
	mustHandOn(t, &r, 1, "[[1]]")
	mustHandOn(t, &r, 3, "")
	r.Put(2, 0, []int{4, 5, 6})
	mustHandOn(t, &r, 3, "")
	r.Put(1, 0, []int{3})
	mustHandOn(t, &r, 3, "[[2 3 4]]")
	if r.Left() != 2 {
		t.Errorf("P9: %d rows left, want 2", r.Left())
	}
	mustHandOn(t, &r, 20, "[[5 6]]")
	if r.Left() != 0 {
		t.Errorf("P9: %d rows left, want 0", r.Left())
	}
}

func TestThereLeftEarly(t *testing.T) {
	r := New(1, []int{2, 2})
	r.Put(0, 0, []int{1, 2})
	r.Put(1, 0, []int{3, 4})
	got := ""
	for row := range r.There() {
		got += fmt.Sprint(row)
		if row[0] == 3 {
			break
		}
	}
	got += "|"
	for row := range r.There() {
		got += fmt.Sprint(row)
	}
	for row := range r.There() {
		t.Errorf("P9: %v comes again", row)
	}
	if got != "[1][2][3]|[4]" {
		t.Errorf("P9: %s", got)
	}
}

func TestThereStopsAtWhatIsMissing(t *testing.T) {
	r := New(1, []int{1, 1})
	r.Put(1, 0, []int{2})
	for row := range r.There() {
		t.Errorf("P9: %v comes ahead of what is missing", row)
	}
	r.Put(0, 0, []int{1})
	got := ""
	for row := range r.There() {
		got += fmt.Sprint(row)
	}
	if got != "[1][2]" {
		t.Errorf("P9: %s", got)
	}
}
