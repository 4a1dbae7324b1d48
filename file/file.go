// Package file: a table as a file: its pages, and the footer that tells where they are.
package file

import (
	"colscan/api"
	"colscan/page"
	"colscan/wire"
)

// mark is how a file begins and ends.
const mark = "COL1"

// Write answers the file of a table.
func Write(t api.Table) (string, api.Errno) {
	if !writable(t) {
		return "", api.ErrTable
	}
	w := writer{pages: []byte(mark)}
	w.addNames(t.Names)
	w.footer = wire.AppendVarint(w.footer, len(t.Groups))
	for _, group := range t.Groups {
		w.addGroup(group)
	}
	return w.finish()
}

// writer keeps the two parts of a file apart, since each page makes both longer.
type writer struct {
	pages  []byte // with the mark ahead of them, so that its length is the next page's place
	footer []byte
}

func (w *writer) addNames(names []string) {
	w.footer = wire.AppendVarint(w.footer, len(names))
	for _, name := range names {
		w.footer = wire.AppendVarint(w.footer, len(name))
		w.footer = append(w.footer, name...)
	}
}

func (w *writer) addGroup(group [][]int) {
	w.footer = wire.AppendVarint(w.footer, len(group[0]))
	for _, list := range group {
		w.addPage(page.Write(list))
	}
}

func (w *writer) addPage(data []byte) {
	w.footer = wire.AppendVarint(w.footer, len(w.pages))
	w.footer = wire.AppendVarint(w.footer, len(data))
	w.footer = wire.AppendSum(w.footer, data)
	w.pages = append(w.pages, data...)
}

func (w *writer) finish() (string, api.Errno) {
	file := append(w.pages, w.footer...)
	file = wire.AppendPair(file, len(w.footer))
	file = append(file, mark...)
	if len(file) > api.MaxFile {
		return "", api.ErrTable
	}
	return string(file), api.OK
}
