// Package line: what is asked for over a line that fails, and asked for again.
package line

import (
	"slices"

	"colscan/api"
)

// Line has the requests that have been made, and the parts of the file that wait for a request. A Line without anything asks for nothing.
type Line struct {
	tries   int
	giveUp  func()
	lastId  int
	asked   []request // by their ids
	waiting []waiting // in the order in which they failed
}

// request has with it what is to be done when its answer comes, and when it fails.
type request struct {
	api.Request
	came   func(data string)
	failed func()
}

type waiting struct {
	ticks int
	again func()
}

// New answers a Line that calls giveUp when one part has failed as often as tries.
func New(tries int, giveUp func()) Line {
	return Line{tries: tries, giveUp: giveUp}
}

// Fetch asks for a part of the file, and calls whole when all of it is there.
func (l *Line) Fetch(place, length int, whole func(data []byte)) {
	p := &part{line: l, place: place, length: length, whole: whole}
	p.ask()
}

// Asked answers the requests that have been made and neither answered nor failed.
func (l *Line) Asked() []api.Request {
	list := make([]api.Request, 0, len(l.asked))
	for _, r := range l.asked {
		list = append(list, r.Request)
	}
	return list
}

// Answer says what came.
func (l *Line) Answer(id int, data string) api.Errno {
	i := l.find(id)
	if i < 0 {
		return api.ErrId
	}
	if len(data) > l.asked[i].Length {
		return api.ErrData
	}
	if data == "" {
		return l.Fail(id)
	}
	l.take(i).came(data)
	return api.OK
}

// Fail says that nothing came.
func (l *Line) Fail(id int) api.Errno {
	i := l.find(id)
	if i < 0 {
		return api.ErrId
	}
	l.take(i).failed()
	return api.OK
}

// Tick says that time has passed.
func (l *Line) Tick() {
	var still []waiting
	for _, w := range l.waiting {
		w.ticks--
		if w.ticks > 0 {
			still = append(still, w)
		} else {
			w.again()
		}
	}
	l.waiting = still
}

func (l *Line) find(id int) int {
	return slices.IndexFunc(l.asked, func(r request) bool { return r.Id == id })
}

// take takes a request away ahead of what is done with it, so that those that this makes come behind it.
func (l *Line) take(i int) request {
	r := l.asked[i]
	l.asked = slices.Delete(l.asked, i, i+1)
	return r
}
