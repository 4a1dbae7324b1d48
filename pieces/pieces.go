// Package pieces: which bytes of a file are asked for together.
package pieces

import (
	"cmp"
	"slices"

	"colscan/api"
	"colscan/file"
)

// Page is a wanted page, and where its values belong: the group, and the number of the column among those that are wanted.
type Page struct {
	file.Page
	Group, Column, Rows int
}

// Piece is some pages of one group that are asked for together.
type Piece struct {
	Place, Length int
	Pages         []Page
}

// Of answers the pieces that have the pages of the columns, in the order in which they are asked for.
func Of(groups []file.Group, columns []int, gap int) []Piece {
	var list []Piece
	for number, group := range groups {
		list = append(list, join(wanted(number, group, columns), gap)...)
	}
	return list
}

// wanted answers the pages of the columns by their places.
func wanted(number int, group file.Group, columns []int) []Page {
	var pages []Page
	for i, column := range columns {
		pages = append(pages, Page{Page: group.Pages[column], Group: number, Column: i, Rows: group.Rows})
	}
	// Stable, since of one place the column that is wanted first stays first.
	slices.SortStableFunc(pages, func(a, b Page) int { return cmp.Compare(a.Place, b.Place) })
	return pages
}

func join(pages []Page, gap int) []Piece {
	var list []Piece
	for _, page := range pages {
		last := len(list) - 1
		if last >= 0 && list[last].near(page, gap) && list[last].lengthWith(page) <= api.MaxRange {
			list[last].add(page)
		} else {
			list = append(list, Piece{Place: page.Place, Length: page.Length, Pages: []Page{page}})
		}
	}
	return list
}

func (p *Piece) near(page Page, gap int) bool {
	return page.Place-(p.Place+p.Length) <= gap
}

// lengthWith is the piece's length if the page, which does not begin ahead of it, is added; a page may end within the piece.
func (p *Piece) lengthWith(page Page) int {
	return max(p.Length, page.End()-p.Place)
}

func (p *Piece) add(page Page) {
	p.Length = p.lengthWith(page)
	p.Pages = append(p.Pages, page)
}

// Read answers the values of one of the piece's pages out of the piece's data; the bool is false if the page is malformed.
func (p *Piece) Read(page Page, data []byte) ([]int, bool) {
	begin := page.Place - p.Place
	return page.Page.Read(data[begin:begin+page.Length], page.Rows)
}
