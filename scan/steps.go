package scan

import (
	"colscan/file"
	"colscan/pieces"
	"colscan/rows"
)

func (s *Scan) giveUp() {
	s.end(unavailable)
}

func (s *Scan) tailCame(data []byte) {
	length, right := file.ReadTail(data, s.size)
	if !right {
		s.end(malformed)
		return
	}
	s.line.Fetch(s.size-file.TailLength-length, length, s.footerCame)
}

func (s *Scan) footerCame(data []byte) {
	footer, right := file.ReadFooter(data, s.size-file.TailLength-len(data))
	if !right {
		s.end(malformed)
		return
	}
	columns, right := footer.Columns(s.want)
	if !right {
		s.end(badColumn)
		return
	}
	if len(footer.Groups) == 0 {
		s.end(done)
		return
	}
	s.rows = rows.New(len(columns), lengths(footer.Groups))
	s.ahead = pieces.Of(footer.Groups, columns, s.settings.Gap)
	s.askAhead()
}

func lengths(groups []file.Group) []int {
	var list []int
	for _, group := range groups {
		list = append(list, group.Rows)
	}
	return list
}

// askAhead asks for pieces as long as the window has room for them.
func (s *Scan) askAhead() {
	for s.open < s.settings.Window && len(s.ahead) > 0 {
		coming := arrival{scan: s, piece: s.ahead[0]}
		s.ahead = s.ahead[1:]
		s.open++
		s.line.Fetch(coming.piece.Place, coming.piece.Length, coming.came)
	}
}

// arrival is a piece that has been asked for, and the scan that waits for it.
type arrival struct {
	scan  *Scan
	piece pieces.Piece
}

func (a arrival) came(data []byte) {
	for _, page := range a.piece.Pages {
		list, right := a.piece.Read(page, data)
		if !right {
			a.scan.end(malformed)
			return
		}
		a.scan.rows.Put(page.Group, page.Column, list)
	}
	a.scan.open--
	a.scan.askAhead()
}
