package file

import (
	"reflect"
	"testing"

	"colscan/api"
	"colscan/wire"
)

func TestReadTail(t *testing.T) {
	for _, c := range []struct {
		why, tail string
		size      int
		length    int
		right     bool
	}{
		{"the document's", "\x00\x0bCOL1", 24, 11, true},
		{"the least", "\x00\x01COL1", 24, 1, true},
		{"the greatest", "\x00\x0eCOL1", 24, 14, true},
		{"one beyond the greatest", "\x00\x0fCOL1", 24, 0, false},
		{"none", "\x00\x00COL1", 24, 0, false},
		{"the least in the least file", "\x00\x01COL1", 11, 1, true},
		{"the least in a file with no room", "\x00\x01COL1", 10, 0, false},
		{"two bytes", "\x01\x02COL1", 4000, 258, true},
		{"the greatest in the greatest file", "\x0f\x96COL1", 4000, 3990, true},
		{"one beyond in the greatest file", "\x0f\x97COL1", 4000, 0, false},
		{"far beyond", "\xff\xffCOL1", 4000, 0, false},
		{"another mark", "\x00\x0bCOL2", 24, 0, false},
		{"another mark", "\x00\x0bcOL1", 24, 0, false},
		{"too short", "\x00\x0bCOL", 24, 0, false},
		{"nothing", "", 24, 0, false},
		{"too long", "\x00\x0bCOL1\x00", 24, 0, false},
	} {
		if length, right := ReadTail([]byte(c.tail), c.size); length != c.length || right != c.right {
			t.Errorf("P4: %s: length %d, right %v, want %d, %v", c.why, length, right, c.length, c.right)
		}
	}
}

func TestReadFooter(t *testing.T) {
	data := "\x02\x01a\x02bb\x02\x03\x04\x05\x01\x02\x03\x04\x80\x01\x06\xff\xfe\xfd\xfc\x14\x09\x01\x00\x00\x00\x00\x04\x82\x01\x00\x00\x00\x01"
	want := Footer{Names: []string{"a", "bb"}, Groups: []Group{
		{Rows: 3, Pages: []Page{{4, 5, 0x01020304}, {128, 6, 0xfffefdfc}}},
		{Rows: 20, Pages: []Page{{9, 1, 0}, {4, 130, 1}}},
	}}
	if got, right := ReadFooter([]byte(data), 134); !right || !reflect.DeepEqual(got, want) {
		t.Errorf("P4: %v, right %v, want %v", got, right, want)
	}
	if got, right := ReadFooter([]byte(data), 133); right || got.Names != nil || got.Groups != nil {
		t.Errorf("P4: an end one beyond: %v, right %v", got, right)
	}
	for i := range data {
		if got, right := ReadFooter([]byte(data[:i]), 134); right || got.Names != nil || got.Groups != nil {
			t.Errorf("P4: the first %d bytes: %v, right %v", i, got, right)
		}
	}
}

func TestReadFooterOfWritten(t *testing.T) {
	x := api.Table{Names: []string{"a", "b"}, Groups: [][][]int{{{5, 5, 5}, {9, 7, 8}}, {{1}, {2}}}}
	data, _ := Write(x)
	length, right := ReadTail([]byte(data[len(data)-TailLength:]), len(data))
	if !right {
		t.Fatal("P10: the tail is malformed")
	}
	place := len(data) - TailLength - length
	footer, right := ReadFooter([]byte(data[place:place+length]), place)
	if !right || !reflect.DeepEqual(footer.Names, x.Names) || len(footer.Groups) != 2 {
		t.Fatalf("P10: %v, right %v", footer, right)
	}
	for i, group := range footer.Groups {
		for j, page := range group.Pages {
			list, right := page.Read([]byte(data[page.Place:page.End()]), group.Rows)
			if !right || !reflect.DeepEqual(list, x.Groups[i][j]) {
				t.Errorf("P10: group %d, column %d: %v, right %v", i, j, list, right)
			}
		}
	}
}

func TestPageRead(t *testing.T) {
	data := []byte("\x01\x03\x05")
	p := Page{Place: 4, Length: 3, Sum: wire.Sum(data)}
	if list, right := p.Read(data, 3); !right || !reflect.DeepEqual(list, []int{5, 5, 5}) {
		t.Errorf("P4: %v, right %v", list, right)
	}
	if list, right := p.Read([]byte("\x01\x03\x06"), 3); right || list != nil {
		t.Errorf("P4: another sum: %v, right %v", list, right)
	}
	if list, right := p.Read(data, 2); right || list != nil {
		t.Errorf("P4: too many values: %v, right %v", list, right)
	}
}

func TestColumns(t *testing.T) {
	f := Footer{Names: []string{"a", "b", "c"}}
	for _, c := range []struct {
		want    []string
		columns []int
		right   bool
	}{
		{[]string{"a"}, []int{0}, true},
		{[]string{"c", "a"}, []int{2, 0}, true},
		{[]string{"b", "c", "a"}, []int{1, 2, 0}, true},
		{nil, nil, false},
		{[]string{"q"}, nil, false},
		{[]string{"a", "q"}, nil, false},
		{[]string{"a", "b", "a"}, nil, false},
		{[]string{""}, nil, false},
		{[]string{"A"}, nil, false},
	} {
		if columns, right := f.Columns(c.want); right != c.right || !reflect.DeepEqual(columns, c.columns) {
			t.Errorf("P7: %q: %v, right %v, want %v, %v", c.want, columns, right, c.columns, c.right)
		}
	}
}
