// Package page: the values of one column in one group, as a page of a file.
package page

import (
	"colscan/api"
	"colscan/wire"
)

// The kinds of pages: a kind's number is the first byte of its pages.
const (
	plain = iota
	runs
	rising
	kinds
)

type values []int

// way is how a page of a kind is written and read, behind the byte for its kind.
type way struct {
	write func(values, []byte) ([]byte, bool) // false if the kind can't hold the values
	read  func(values, *wire.Reader)          // fills the values
}

func ways() [kinds]way {
	return [kinds]way{
		plain:  {write: values.writePlain, read: values.readPlain},
		runs:   {write: values.writeRuns, read: values.readRuns},
		rising: {write: values.writeRising, read: values.readRising},
	}
}

// Write answers the shortest page of the values, which are 0 or more.
func Write(list []int) []byte {
	var best []byte
	for kind, way := range ways() {
		page, fits := way.write(list, []byte{byte(kind)})
		// Only a shorter page takes over, so that of two alike the least kind stays.
		if fits && (best == nil || len(page) < len(best)) {
			best = page
		}
	}
	return best
}

// Read answers the values of a page of so many rows; the bool is false if the page is malformed.
func Read(data []byte, rows int) ([]int, bool) {
	from := wire.NewReader(data)
	kind := from.Byte()
	if kind >= kinds {
		return nil, false
	}
	list := make(values, rows)
	ways()[kind].read(list, from)
	if !from.Right() {
		return nil, false
	}
	return list, true
}

func (v values) writePlain(page []byte) ([]byte, bool) {
	for _, n := range v {
		page = wire.AppendVarint(page, n)
	}
	return page, true
}

func (v values) writeRuns(page []byte) ([]byte, bool) {
	for len(v) > 0 {
		length := v.firstRun()
		page = wire.AppendVarint(page, length)
		page = wire.AppendVarint(page, v[0])
		v = v[length:]
	}
	return page, true
}

// firstRun counts the values at the beginning that are the same; there is one at least.
func (v values) firstRun() int {
	for i, n := range v {
		if n != v[0] {
			return i
		}
	}
	return len(v)
}

func (v values) writeRising(page []byte) ([]byte, bool) {
	// The first value is written whole: it is as far above 0 as it is great.
	ahead := 0
	for _, n := range v {
		if n < ahead {
			return nil, false
		}
		page = wire.AppendVarint(page, n-ahead)
		ahead = n
	}
	return page, true
}

func (v values) readPlain(from *wire.Reader) {
	for i := range v {
		v[i] = from.Number(0, api.MaxValue)
	}
}

func (v values) readRuns(from *wire.Reader) {
	for len(v) > 0 {
		length := from.Number(1, len(v))
		n := from.Number(0, api.MaxValue)
		for i := range length {
			v[i] = n
		}
		v = v[length:]
	}
}

func (v values) readRising(from *wire.Reader) {
	ahead := 0
	for i := range v {
		ahead += from.Number(0, api.MaxValue-ahead)
		v[i] = ahead
	}
}
