// Package scan: reads the wanted columns of a table: its file's tail, its footer, and the pieces that have the pages.
package scan

import (
	"strings"

	"colscan/api"
	"colscan/file"
	"colscan/line"
	"colscan/pieces"
	"colscan/rows"
)

// state is how far a scan is; the numbers are those of package api.
type state int

const (
	going state = iota
	done
	malformed
	badColumn
	unavailable
	cancelled
)

// Scan is one reading of a table.
type Scan struct {
	state    state
	size     int
	want     []string
	settings api.Settings
	line     line.Line
	ahead    []pieces.Piece // those that have not been asked for
	open     int            // pieces that have a request or wait for one
	rows     rows.Rows
}

// Open begins a scan of a file of that size.
func Open(size int, want []string, settings api.Settings) (*Scan, api.Errno) {
	if size < 0 || size > api.MaxFile || !rightSettings(settings) {
		return nil, api.ErrSettings
	}
	s := &Scan{size: size, want: keep(want), settings: settings}
	s.line = line.New(settings.Tries, s.giveUp)
	if size < file.LeastSize {
		s.end(malformed)
		return s, api.OK
	}
	s.line.Fetch(size-file.TailLength, file.TailLength, s.tailCame)
	return s, api.OK
}

func rightSettings(settings api.Settings) bool {
	return 1 <= settings.Window && settings.Window <= api.MaxWindow &&
		1 <= settings.Tries && settings.Tries <= api.MaxTries &&
		1 <= settings.Rows && settings.Rows <= api.MaxRows &&
		0 <= settings.Gap && settings.Gap <= api.MaxGap
}

// keep answers a copy of the names. Names that no file can have end as no names do, whatever the footer says, so they need not be kept.
func keep(want []string) []string {
	if !file.RightNames(want) {
		return nil
	}
	var names []string
	for _, name := range want {
		names = append(names, strings.Clone(name))
	}
	return names
}

// Asked answers what is asked for.
func (s *Scan) Asked() []api.Request {
	return s.line.Asked()
}

// Answer says what came.
func (s *Scan) Answer(id int, data string) api.Errno {
	return s.line.Answer(id, data)
}

// Fail says that nothing came.
func (s *Scan) Fail(id int) api.Errno {
	return s.line.Fail(id)
}

// Tick says that time has passed.
func (s *Scan) Tick() {
	s.line.Tick()
}

// Next hands on the next rows.
func (s *Scan) Next() [][]int {
	lists := s.rows.Next(s.settings.Rows)
	if lists != nil && s.rows.Left() == 0 {
		s.end(done)
	}
	return lists
}

// State tells how far the scan is.
func (s *Scan) State() int {
	return int(s.state)
}

// Cancel ends a scan that is going.
func (s *Scan) Cancel() {
	if s.state == going {
		s.end(cancelled)
	}
}

// end leaves nothing but why the scan ended: there is nothing then to be asked for, to be handed on, or to change.
func (s *Scan) end(why state) {
	*s = Scan{state: why}
}
