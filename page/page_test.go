package page

import (
	"testing"

	"colscan/api"
)

type example struct {
	why  string
	list []int
	want string
}

func check(t *testing.T, examples []example) {
	t.Helper()
	for _, c := range examples {
		if got := string(Write(c.list)); got != c.want {
			t.Errorf("P3: %s: page of %v = %x, want %x", c.why, c.list, got, c.want)
		}
	}
}

func TestKinds(t *testing.T) {
	if plain != 0 || runs != 1 || rising != 2 {
		t.Errorf("P3: kinds %d, %d, %d", plain, runs, rising)
	}
}

func TestWrite(t *testing.T) {
	check(t, []example{
		{"one value", []int{7}, "\x00\x07"},
		{"one value 0", []int{0}, "\x00\x00"},
		{"one value MaxValue", []int{api.MaxValue}, "\x00\xff\xff\xff\xff\xff\x1f"},
		{"falling", []int{9, 8, 7}, "\x00\x09\x08\x07"},
		{"varints of one byte and of two", []int{128, 127}, "\x00\x80\x01\x7f"},
		{"one run", []int{5, 5, 5}, "\x01\x03\x05"},
		{"a run of 0", []int{0, 0, 0}, "\x01\x03\x00"},
		{"falling runs", []int{300, 300, 299, 299}, "\x01\x02\xac\x02\x02\xab\x02"},
		{"a value in two runs", []int{5, 5, 5, 1, 5, 5, 5}, "\x01\x03\x05\x01\x01\x03\x05"},
		{"a last run of one", []int{300, 300, 300, 7}, "\x01\x03\xac\x02\x01\x07"},
		{"rising by ones", []int{300, 301, 302}, "\x02\xac\x02\x01\x01"},
		{"rising and level", []int{300, 300, 301, 301, 302}, "\x02\xac\x02\x00\x01\x00\x01"},
		{"rising by 127 and 128", []int{128, 255, 383}, "\x02\x80\x01\x7f\x80\x01"},
		{"rising to MaxValue", []int{api.MaxValue - 1, api.MaxValue}, "\x02\xfe\xff\xff\xff\xff\x1f\x01"},
	})
}

func TestLeastKindOfTheSameLength(t *testing.T) {
	check(t, []example{
		{"all three", []int{4, 4}, "\x00\x04\x04"},
		{"plain and runs", []int{9, 9, 7, 7}, "\x00\x09\x09\x07\x07"},
		{"plain and rising", []int{1, 2, 3}, "\x00\x01\x02\x03"},
		{"runs and rising", []int{300, 300}, "\x01\x02\xac\x02"},
	})
}

func TestRisingOnlyWithNothingBelow(t *testing.T) {
	check(t, []example{
		{"below at the beginning", []int{301, 300, 302}, "\x00\xad\x02\xac\x02\xae\x02"},
		{"below in the middle", []int{300, 302, 301, 303}, "\x00\xac\x02\xae\x02\xad\x02\xaf\x02"},
		{"below at the end", []int{300, 301, 302, 301}, "\x00\xac\x02\xad\x02\xae\x02\xad\x02"},
		{"0 at the end", []int{300, 301, 302, 0}, "\x00\xac\x02\xad\x02\xae\x02\x00"},
	})
}

func TestNoValues(t *testing.T) {
	if got := string(Write(nil)); got != "\x00" {
		t.Errorf("P1: page of nothing = %x", got)
	}
}
