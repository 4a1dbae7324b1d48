// Package colscan: a table far away, read column by column over a line that fails: see DOC.md.
package colscan

import (
	"colscan/api"
	"colscan/file"
)

// Scan reads a table.
type Scan struct{}

// Write writes a table (P3).
func Write(t api.Table) (string, api.Errno) { return file.Write(t) }

// Open begins a scan (P5).
func Open(size int, want []string, s api.Settings) (*Scan, api.Errno) { return nil, api.OK }

// Asked tells what is asked for (P6).
func (s *Scan) Asked() []api.Request { return nil }

// Answer says what came (P6).
func (s *Scan) Answer(id int, data string) api.Errno { return api.OK }

// Fail says that nothing came (P6).
func (s *Scan) Fail(id int) api.Errno { return api.OK }

// Tick says that time has passed (P6).
func (s *Scan) Tick() {}

// Next hands rows on (P9).
func (s *Scan) Next() [][]int { return nil }

// State tells how far the scan is (P9).
func (s *Scan) State() int { return 0 }

// Cancel ends the scan (P9).
func (s *Scan) Cancel() {}
