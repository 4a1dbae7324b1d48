package page

import (
	"math/rand"
	"slices"
	"testing"

	"colscan/api"
)

func TestRead(t *testing.T) {
	const most = "\xff\xff\xff\xff\xff\x1f"
	for _, c := range []struct {
		why, data string
		want      []int
	}{
		{"plain", "\x00\x09\x00\x7f", []int{9, 0, 127}},
		{"plain, wide", "\x00\x80\x01\xac\x02", []int{128, 300}},
		{"plain, MaxValue", "\x00" + most, []int{api.MaxValue}},
		{"one run", "\x01\x03\x05", []int{5, 5, 5}},
		{"runs of one", "\x01\x01\x05\x01\x06", []int{5, 6}},
		{"a value in two runs", "\x01\x01\x05\x02\x05", []int{5, 5, 5}},
		{"runs, MaxValue", "\x01\x02" + most, []int{api.MaxValue, api.MaxValue}},
		{"rising", "\x02\x05\x00\x01\x80\x01", []int{5, 5, 6, 134}},
		{"rising to MaxValue", "\x02\xfe\xff\xff\xff\xff\x1f\x01", []int{api.MaxValue - 1, api.MaxValue}},
		{"rising from 0 to MaxValue", "\x02\x00" + most, []int{0, api.MaxValue}},
		{"level at MaxValue", "\x02" + most + "\x00", []int{api.MaxValue, api.MaxValue}},
	} {
		if got, right := Read([]byte(c.data), len(c.want)); !right || !slices.Equal(got, c.want) {
			t.Errorf("P4: %s: %v, right %v, want %v", c.why, got, right, c.want)
		}
	}
}

func TestReadMalformed(t *testing.T) {
	const beyond = "\x80\x80\x80\x80\x80\x20"
	for _, c := range []struct {
		why, data string
		rows      int
	}{
		{"nothing", "", 1},
		{"a kind alone, plain", "\x00", 1},
		{"a kind alone, runs", "\x01", 1},
		{"a kind alone, rising", "\x02", 1},
		{"kind 3", "\x03\x01", 1},
		{"kind 128", "\x80\x01", 1},
		{"kind 0 in two bytes", "\x80\x00\x01", 1},
		{"kind 255", "\xff\x01", 1},
		{"plain, too few", "\x00\x01", 2},
		{"plain, too many", "\x00\x01\x02\x03", 2},
		{"plain, not the shortest", "\x00\x81\x00", 1},
		{"plain, cut off", "\x00\x81", 1},
		{"plain, beyond MaxValue", "\x00" + beyond, 1},
		{"plain, far beyond", "\x00\xff\xff\xff\xff\xff\xff\xff\xff\xff\x01", 1},
		{"a run of 0", "\x01\x00\x05", 1},
		{"a run of 0 ahead", "\x01\x00\x05\x01\x05", 1},
		{"a run of 0 behind", "\x01\x01\x05\x00\x05", 1},
		{"a run beyond the rows", "\x01\x04\x05", 3},
		{"a second run beyond the rows", "\x01\x02\x05\x02\x05", 3},
		{"a run far beyond the rows", "\x01\xff\xff\xff\xff\xff\xff\xff\xff\x7f\x05", 3},
		{"runs, too few", "\x01\x02\x05", 3},
		{"runs, too many", "\x01\x03\x05\x01\x05", 3},
		{"a run without a value", "\x01\x03", 3},
		{"a run's length not the shortest", "\x01\x83\x00\x05", 3},
		{"a run's value not the shortest", "\x01\x03\x85\x00", 3},
		{"a run beyond MaxValue", "\x01\x03" + beyond, 3},
		{"rising, too few", "\x02\x05", 2},
		{"rising, too many", "\x02\x05\x00\x00", 2},
		{"rising, not the shortest", "\x02\x05\x80\x00", 2},
		{"rising, the first beyond MaxValue", "\x02" + beyond, 1},
		{"rising beyond MaxValue by 1", "\x02\xff\xff\xff\xff\xff\x1f\x01", 2},
		{"rising beyond MaxValue by much", "\x02\x01\xff\xff\xff\xff\xff\x1f", 2},
		{"rising beyond all numbers", "\x02\x01\xff\xff\xff\xff\xff\xff\xff\xff\x7f", 2},
	} {
		if got, right := Read([]byte(c.data), c.rows); right || got != nil {
			t.Errorf("P4: %s: %v, right %v", c.why, got, right)
		}
	}
}

// TestReadWritten reads each kind of page of a list, not the shortest alone.
func TestReadWritten(t *testing.T) {
	r := rand.New(rand.NewSource(2))
	for range 2000 {
		list := make([]int, 1+r.Intn(api.MaxRows))
		most := 1 << r.Intn(41)
		for i := range list {
			list[i] = r.Intn(most)
		}
		if r.Intn(2) == 0 {
			slices.Sort(list)
		}
		for kind, way := range ways() {
			data, fits := way.write(list, []byte{byte(kind)})
			if !fits {
				continue
			}
			if got, right := Read(data, len(list)); !right || !slices.Equal(got, list) {
				t.Fatalf("P10: %v in kind %d is read as %v, right %v", list, kind, got, right)
			}
		}
		if got, right := Read(Write(list), len(list)); !right || !slices.Equal(got, list) {
			t.Fatalf("P10: %v is read as %v, right %v", list, got, right)
		}
	}
}
