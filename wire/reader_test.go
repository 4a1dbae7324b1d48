package wire

import (
	"encoding/binary"
	"math"
	"strings"
	"testing"
)

func TestNumber(t *testing.T) {
	const most = 1099511627775
	for _, c := range []struct {
		data        string
		least, most int
		want        int
		right       bool
	}{
		{"\x00", 0, most, 0, true},
		{"\x7f", 0, most, 127, true},
		{"\x80\x01", 0, most, 128, true},
		{"\xff\x7f", 0, most, 16383, true},
		{"\xff\xff\xff\xff\xff\x1f", 0, most, most, true},
		{"\x80\x80\x80\x80\x80\x20", 0, most, 0, false},
		{"\x04", 4, 9, 4, true},
		{"\x03", 4, 9, 4, false},
		{"\x09", 4, 9, 9, true},
		{"\x0a", 4, 9, 4, false},
		{"\x04", 4, 3, 4, false},
		{"", 0, most, 0, false},
		{"\x80", 0, most, 0, false},
		{"\xff\xff", 0, most, 0, false},
		{"\x80\x00", 0, most, 0, false},
		{"\x81\x00", 0, most, 0, false},
		{"\x80\x80\x00", 0, most, 0, false},
		{"\xff\xff\xff\xff\xff\xff\xff\xff\x7f", 0, math.MaxInt, math.MaxInt, true},
		{"\x80\x80\x80\x80\x80\x80\x80\x80\x80\x01", 0, math.MaxInt, 0, false},
		{"\x81\x80\x80\x80\x80\x80\x80\x80\x80\x02", 0, math.MaxInt, 0, false},
		{strings.Repeat("\x80", 30) + "\x01", 0, math.MaxInt, 0, false},
		{strings.Repeat("\xff", 300), 1, math.MaxInt, 1, false},
	} {
		r := NewReader([]byte(c.data))
		if got := r.Number(c.least, c.most); got != c.want || r.Right() != c.right {
			t.Errorf("P4: %x from %d to %d: %d, right %v, want %d, %v", c.data, c.least, c.most, got, r.Right(), c.want, c.right)
		}
	}
}

func TestNumberAgainstLibrary(t *testing.T) {
	for shift := range 62 {
		for _, n := range []int{1<<shift - 1, 1 << shift, 1<<shift + 1} {
			r := NewReader(binary.AppendUvarint(nil, uint64(n)))
			if got := r.Number(0, math.MaxInt); got != n || !r.Right() {
				t.Errorf("P4: the varint of %d is read as %d, right %v", n, got, r.Right())
			}
		}
	}
}

func TestReaderTakesInOrder(t *testing.T) {
	r := NewReader([]byte("\x07\x80\x01ab\x01\x02\x03\xff"))
	if b, n, text, sum := r.Byte(), r.Number(0, 128), r.Text(2), r.Sum(); b != 7 || n != 128 || text != "ab" || sum != 0x010203ff {
		t.Errorf("P4: took %d, %d, %s, %x", b, n, text, sum)
	}
	if !r.Right() {
		t.Error("P4: all was right, and nothing is left")
	}
}

func TestReaderRight(t *testing.T) {
	for _, c := range []struct {
		why   string
		data  string
		take  func(*Reader)
		right bool
	}{
		{"nothing of nothing", "", func(r *Reader) {}, true},
		{"something left", "a", func(r *Reader) {}, false},
		{"a byte", "a", func(r *Reader) { r.Byte() }, true},
		{"no byte", "", func(r *Reader) { r.Byte() }, false},
		{"a text", "abc", func(r *Reader) { r.Text(3) }, true},
		{"an empty text", "", func(r *Reader) { r.Text(0) }, true},
		{"a text too long", "abc", func(r *Reader) { r.Text(4) }, false},
		{"a sum", "abcd", func(r *Reader) { r.Sum() }, true},
		{"a sum cut off", "abc", func(r *Reader) { r.Sum() }, false},
		{"wrong, then right", "\x05\x01", func(r *Reader) { r.Number(0, 4); r.Number(0, 4) }, false},
	} {
		r := NewReader([]byte(c.data))
		c.take(r)
		if r.Right() != c.right {
			t.Errorf("P4: %s: right %v, want %v", c.why, r.Right(), c.right)
		}
	}
}
