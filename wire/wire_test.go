package wire

import (
	"encoding/binary"
	"hash/fnv"
	"testing"
)

func TestVarint(t *testing.T) {
	for _, c := range []struct {
		n    int
		want string
	}{
		{0, "\x00"},
		{1, "\x01"},
		{127, "\x7f"},
		{128, "\x80\x01"},
		{129, "\x81\x01"},
		{255, "\xff\x01"},
		{300, "\xac\x02"},
		{16383, "\xff\x7f"},
		{16384, "\x80\x80\x01"},
		{1099511627775, "\xff\xff\xff\xff\xff\x1f"},
	} {
		if got := string(AppendVarint([]byte("x"), c.n)); got != "x"+c.want {
			t.Errorf("P3: varint of %d = %x, want %x behind x", c.n, got, c.want)
		}
	}
}

func TestVarintAgainstLibrary(t *testing.T) {
	for shift := range 62 {
		for _, n := range []int{1<<shift - 1, 1 << shift, 1<<shift + 1} {
			want := string(binary.AppendUvarint(nil, uint64(n)))
			if got := string(AppendVarint(nil, n)); got != want {
				t.Errorf("P3: varint of %d = %x, want %x", n, got, want)
			}
		}
	}
}

func TestSum(t *testing.T) {
	for _, c := range []struct{ data, want string }{
		{"", "\x81\x1c\x9d\xc5"},
		{"\x01\x03\x05", "\x78\xd1\xab\xc8"},
	} {
		if got := string(AppendSum([]byte("x"), []byte(c.data))); got != "x"+c.want {
			t.Errorf("P3: sum of %x = %x, want %x behind x", c.data, got, c.want)
		}
	}
	var data []byte
	for i := range 300 {
		data = append(data, byte(i*7))
		h := fnv.New32a()
		h.Write(data)
		if got, want := string(AppendSum(nil, data)), string(h.Sum(nil)); got != want {
			t.Errorf("P3: sum of %d bytes = %x, want %x", len(data), got, want)
		}
	}
}

func TestPair(t *testing.T) {
	for _, c := range []struct {
		n    int
		want string
	}{
		{0, "\x00\x00"}, {11, "\x00\x0b"}, {255, "\x00\xff"}, {256, "\x01\x00"}, {4000, "\x0f\xa0"},
	} {
		if got := string(AppendPair([]byte("x"), c.n)); got != "x"+c.want {
			t.Errorf("P3: pair of %d = %x, want %x behind x", c.n, got, c.want)
		}
	}
}
