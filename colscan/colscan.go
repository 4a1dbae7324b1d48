// Package colscan: a table far away, read column by column over a line that fails: see DOC.md.
package colscan

import (
	"colscan/api"
	"colscan/file"
	"colscan/scan"
)

// Scan reads a table.
type Scan struct {
	inner *scan.Scan
}

// Write writes a table (P3).
func Write(t api.Table) (string, api.Errno) { return file.Write(t) }

// Open begins a scan (P5).
func Open(size int, want []string, s api.Settings) (*Scan, api.Errno) {
	inner, err := scan.Open(size, want, s)
	if err != api.OK {
		return nil, err
	}
	return &Scan{inner: inner}, api.OK
}

// Asked tells what is asked for (P6).
func (s *Scan) Asked() []api.Request { return s.inner.Asked() }

// Answer says what came (P6).
func (s *Scan) Answer(id int, data string) api.Errno { return s.inner.Answer(id, data) }

// Fail says that nothing came (P6).
func (s *Scan) Fail(id int) api.Errno { return s.inner.Fail(id) }

// Tick says that time has passed (P6).
func (s *Scan) Tick() { s.inner.Tick() }

// Next hands rows on (P9).
func (s *Scan) Next() [][]int { return s.inner.Next() }

// State tells how far the scan is (P9).
func (s *Scan) State() int { return s.inner.State() }

// Cancel ends the scan (P9).
func (s *Scan) Cancel() { s.inner.Cancel() }
