// Package page: the values of one column in one group, as a page of a file.
package page

import "colscan/wire"

// The kinds of pages: a kind's number is the first byte of its pages.
const (
	plain = iota
	runs
	rising
	kinds
)

type values []int

// Write answers the shortest page of the values, which are 0 or more.
func Write(list []int) []byte {
	var best []byte
	for kind, write := range writers() {
		page, fits := write(list, []byte{byte(kind)})
		// Only a shorter page takes over, so that of two alike the least kind stays.
		if fits && (best == nil || len(page) < len(best)) {
			best = page
		}
	}
	return best
}

// writers tells of each kind how values are added to a page; the bool is false if the kind can't hold them.
func writers() [kinds]func(values, []byte) ([]byte, bool) {
	return [kinds]func(values, []byte) ([]byte, bool){
		plain:  values.writePlain,
		runs:   values.writeRuns,
		rising: values.writeRising,
	}
}

func (v values) writePlain(page []byte) ([]byte, bool) {
	for _, n := range v {
		page = wire.AppendVarint(page, n)
	}
	return page, true
}

func (v values) writeRuns(page []byte) ([]byte, bool) {
	for len(v) > 0 {
		length := v.firstRun()
		page = wire.AppendVarint(page, length)
		page = wire.AppendVarint(page, v[0])
		v = v[length:]
	}
	return page, true
}

// firstRun counts the values at the beginning that are the same; there is one at least.
func (v values) firstRun() int {
	for i, n := range v {
		if n != v[0] {
			return i
		}
	}
	return len(v)
}

func (v values) writeRising(page []byte) ([]byte, bool) {
	// The first value is written whole: it is as far above 0 as it is great.
	ahead := 0
	for _, n := range v {
		if n < ahead {
			return nil, false
		}
		page = wire.AppendVarint(page, n-ahead)
		ahead = n
	}
	return page, true
}
