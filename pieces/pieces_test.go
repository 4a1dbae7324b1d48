package pieces

import (
	"fmt"
	"reflect"
	"testing"

	"colscan/file"
	"colscan/wire"
)

// group has pages of these places and lengths, one behind the other.
func group(rows int, placesAndLengths ...int) file.Group {
	g := file.Group{Rows: rows}
	for i := 0; i < len(placesAndLengths); i += 2 {
		g.Pages = append(g.Pages, file.Page{Place: placesAndLengths[i], Length: placesAndLengths[i+1]})
	}
	return g
}

// told is each piece's place and length, and the columns of its pages, by their order among the wanted.
func told(list []Piece) string {
	text := ""
	for _, p := range list {
		text += fmt.Sprintf("%d+%d", p.Place, p.Length)
		for _, page := range p.Pages {
			text += fmt.Sprintf(" g%dc%d", page.Group, page.Column)
		}
		text += "; "
	}
	return text
}

func TestOf(t *testing.T) {
	for _, c := range []struct {
		why     string
		groups  []file.Group
		columns []int
		gap     int
		want    string
	}{
		{"no groups", nil, []int{0}, 0, ""},
		{"one page", []file.Group{group(1, 4, 3)}, []int{0}, 0, "4+3 g0c0; "},
		{"one behind the other", []file.Group{group(1, 4, 3, 7, 3)}, []int{0, 1}, 0, "4+6 g0c0 g0c1; "},
		{"wanted the other way round", []file.Group{group(1, 4, 3, 7, 3)}, []int{1, 0}, 0, "4+6 g0c1 g0c0; "},
		{"lying the other way round", []file.Group{group(1, 7, 3, 4, 3)}, []int{0, 1}, 0, "4+6 g0c1 g0c0; "},
		{"one not wanted", []file.Group{group(1, 4, 3, 7, 3, 10, 3)}, []int{0, 2}, 2, "4+3 g0c0; 10+3 g0c1; "},
		{"a gap of just that", []file.Group{group(1, 4, 3, 7, 3, 10, 3)}, []int{0, 2}, 3, "4+9 g0c0 g0c1; "},
		{"groups are not joined", []file.Group{group(1, 4, 3), group(1, 7, 3)}, []int{0}, 32, "4+3 g0c0; 7+3 g1c0; "},
		{"groups in order, whatever their places", []file.Group{group(1, 7, 3), group(1, 4, 3)}, []int{0}, 32, "7+3 g0c0; 4+3 g1c0; "},
		{"just MaxRange", []file.Group{group(1, 4, 30, 34, 34)}, []int{0, 1}, 0, "4+64 g0c0 g0c1; "},
		{"one beyond MaxRange", []file.Group{group(1, 4, 30, 34, 35)}, []int{0, 1}, 0, "4+30 g0c0; 34+35 g0c1; "},
		{"just MaxRange with a gap", []file.Group{group(1, 4, 30, 44, 24)}, []int{0, 1}, 10, "4+64 g0c0 g0c1; "},
		{"one beyond MaxRange with a gap", []file.Group{group(1, 4, 30, 44, 25)}, []int{0, 1}, 10, "4+30 g0c0; 44+25 g0c1; "},
		{"a page beyond MaxRange", []file.Group{group(1, 4, 121, 125, 2)}, []int{0, 1}, 0, "4+121 g0c0; 125+2 g0c1; "},
		{"within a page beyond MaxRange", []file.Group{group(1, 4, 65, 10, 2)}, []int{0, 1}, 0, "4+65 g0c0; 10+2 g0c1; "},
		{"within a page of MaxRange", []file.Group{group(1, 4, 64, 10, 2)}, []int{0, 1}, 0, "4+64 g0c0 g0c1; "},
		{"the same page", []file.Group{group(1, 4, 3, 4, 3)}, []int{1, 0}, 0, "4+3 g0c0 g0c1; "},
		{"one place, the longer first", []file.Group{group(1, 4, 3, 4, 9)}, []int{1, 0}, 0, "4+9 g0c0 g0c1; "},
		{"one place, the shorter first", []file.Group{group(1, 4, 3, 4, 9)}, []int{0, 1}, 0, "4+9 g0c0 g0c1; "},
		{"over one another", []file.Group{group(1, 4, 5, 6, 5)}, []int{0, 1}, 0, "4+7 g0c0 g0c1; "},
		{"the greatest end counts", []file.Group{group(1, 4, 20, 6, 2, 24, 3)}, []int{0, 1, 2}, 0, "4+23 g0c0 g0c1 g0c2; "},
		{"to the last piece alone", []file.Group{group(1, 4, 65, 10, 2, 12, 3)}, []int{0, 1, 2}, 0, "4+65 g0c0; 10+5 g0c1 g0c2; "},
	} {
		if got := told(Of(c.groups, c.columns, c.gap)); got != c.want {
			t.Errorf("P7: %s: %s, want %s", c.why, got, c.want)
		}
	}
}

func TestRead(t *testing.T) {
	data := []byte("xx\x01\x03\x05yy")
	p := Piece{Place: 10, Length: len(data)}
	page := Page{Page: file.Page{Place: 12, Length: 3, Sum: wire.Sum(data[2:5])}, Rows: 3}
	if list, right := p.Read(page, data); !right || !reflect.DeepEqual(list, []int{5, 5, 5}) {
		t.Errorf("P8: %v, right %v", list, right)
	}
	page.Rows = 4
	if list, right := p.Read(page, data); right || list != nil {
		t.Errorf("P8: too few values: %v, right %v", list, right)
	}
}
