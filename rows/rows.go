// Package rows: the rows of a table, handed on in their order while the columns come in any.
package rows

import "iter"

// Rows has the values that have come and have not been handed on.
type Rows struct {
	columns int
	groups  []group // those that have rows left, the first with those that are handed on too
	gone    int     // groups that have been handed on whole
	row     int     // rows of the first group that have been handed on
	left    int     // rows of the table that have not been handed on
}

type group struct {
	rows    int
	lists   [][]int // one for each column
	missing int     // lists that have not come
}

// New answers the Rows of a table of which nothing has come; lengths are the rows of each group, 1 at least.
func New(columns int, lengths []int) Rows {
	r := Rows{columns: columns}
	for _, rows := range lengths {
		r.groups = append(r.groups, group{rows: rows, lists: make([][]int, columns), missing: columns})
		r.left += rows
	}
	return r
}

// Left is how many rows have not been handed on.
func (r *Rows) Left() int {
	return r.left
}

// Put lays down the values of a column in a group, which have not come before.
func (r *Rows) Put(number, column int, list []int) {
	g := &r.groups[number-r.gone]
	g.lists[column] = list
	g.missing--
}

// Next hands on so many rows, or those that are left in the table, a list for each column; nothing if they are not all there.
func (r *Rows) Next(most int) [][]int {
	count := min(most, r.left)
	if count == 0 || count > r.ready() {
		return nil
	}
	lists := make([][]int, r.columns)
	for i := range lists {
		lists[i] = make([]int, 0, count)
	}
	for row := range r.There() {
		for i, n := range row {
			lists[i] = append(lists[i], n)
		}
		count--
		if count == 0 {
			break
		}
	}
	return lists
}

// There goes over the rows that are there. Those it has told are handed on; if it is left early, the others come next time.
func (r *Rows) There() iter.Seq[[]int] {
	return func(yield func([]int) bool) {
		for r.ready() > 0 {
			if !yield(r.take()) {
				return
			}
		}
	}
}

// ready counts the rows that can be handed on now.
func (r *Rows) ready() int {
	count := 0
	for _, g := range r.groups {
		if g.missing > 0 {
			break
		}
		count += g.rows
	}
	return count - r.row
}

// take hands on one row, which is there.
func (r *Rows) take() []int {
	first := r.groups[0]
	row := make([]int, r.columns)
	for i, list := range first.lists {
		row[i] = list[r.row]
	}
	r.row++
	r.left--
	if r.row == first.rows {
		r.dropFirst()
	}
	return row
}

func (r *Rows) dropFirst() {
	r.groups[0] = group{}
	r.groups = r.groups[1:]
	r.gone++
	r.row = 0
}
