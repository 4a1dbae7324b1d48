package file

import (
	"slices"

	"colscan/api"
	"colscan/page"
	"colscan/wire"
)

// Footer tells what columns a file has, and where their pages are.
type Footer struct {
	Names  []string
	Groups []Group
}

// Group has a page for each column.
type Group struct {
	Rows  int
	Pages []Page
}

// Page is where the values of one column in one group are.
type Page struct {
	Place, Length int
	Sum           uint32
}

// ReadFooter answers the footer that is at that place of its file; the bool is false if it is malformed.
func ReadFooter(data []byte, place int) (Footer, bool) {
	from := wire.NewReader(data)
	var f Footer
	for range from.Number(1, api.MaxColumns) {
		f.Names = append(f.Names, from.Text(from.Number(1, api.MaxName)))
	}
	for range from.Number(0, api.MaxGroups) {
		f.Groups = append(f.Groups, readGroup(from, len(f.Names), place))
	}
	if !from.Right() || !RightNames(f.Names) {
		return Footer{}, false
	}
	return f, true
}

// readGroup takes a group whose pages end where the footer begins, or ahead of it.
func readGroup(from *wire.Reader, columns, footer int) Group {
	g := Group{Rows: from.Number(1, api.MaxRows)}
	for range columns {
		place := from.Number(len(mark), footer-1)
		length := from.Number(1, footer-place)
		g.Pages = append(g.Pages, Page{Place: place, Length: length, Sum: from.Sum()})
	}
	return g
}

// Columns answers of each wanted name which column it is; the bool is false if one is no column's, or two are the same, or there are none.
func (f Footer) Columns(want []string) ([]int, bool) {
	var columns []int
	for _, name := range want {
		column := slices.Index(f.Names, name)
		if column < 0 || slices.Contains(columns, column) {
			return nil, false
		}
		columns = append(columns, column)
	}
	return columns, len(columns) > 0
}

// End is the place behind the page.
func (p Page) End() int {
	return p.Place + p.Length
}

// Read answers the values of the page that has this data and so many rows; the bool is false if it is malformed.
func (p Page) Read(data []byte, rows int) ([]int, bool) {
	if wire.Sum(data) != p.Sum {
		return nil, false
	}
	return page.Read(data, rows)
}
