package line

import "colscan/api"

// part is a part of the file that is wanted whole; it has one request at a time, or waits for one.
type part struct {
	line          *Line
	place, length int
	data          []byte // what is there, from the place on
	failures      int
	whole         func(data []byte)
}

// ask makes a request for what is not there yet.
func (p *part) ask() {
	p.line.lastId++
	p.line.asked = append(p.line.asked, request{
		Request: api.Request{Id: p.line.lastId, Place: p.place + len(p.data), Length: p.length - len(p.data)},
		came:    p.came,
		failed:  p.failed,
	})
}

func (p *part) came(data string) {
	p.data = append(p.data, data...)
	if len(p.data) < p.length {
		p.ask()
	} else {
		p.whole(p.data)
	}
}

func (p *part) failed() {
	p.failures++
	if p.failures == p.line.tries {
		p.line.giveUp()
		return
	}
	ticks := 1 << (p.failures - 1)
	p.line.waiting = append(p.line.waiting, waiting{ticks: ticks, again: p.ask})
}
