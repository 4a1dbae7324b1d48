package colscan_test

import (
	"cmp"
	"encoding/binary"
	"slices"

	"colscan/api"
)

// model is the document's rules once more: it keeps all that ever came, and goes over the whole of it at each step.
type model struct {
	size   int
	want   []string
	s      api.Settings
	state  int
	parts  []*modelPart // the tail, the footer, the pieces
	lastId int
	clock  int
	fails  int
	rows   []int // of each group
	lists  map[[2]int][]int
	handed int
}

type modelPart struct {
	place, length int
	data          string
	id            int // of its request; 0 if it has none
	begun         bool
	failures      int
	due, order    int
	pages         []modelPage
}

type modelPage struct {
	place, length, rows int
	sum                 string
	key                 [2]int
}

func (p *modelPart) whole() bool { return len(p.data) == p.length }

func newModel(size int, want []string, s api.Settings) *model {
	m := &model{size: size, want: want, s: s, lists: map[[2]int][]int{}}
	if size < 10 {
		m.state = api.Malformed
		return m
	}
	m.parts = []*modelPart{{place: size - 6, length: 6}}
	m.fill()
	return m
}

func (m *model) ask(p *modelPart) {
	m.lastId++
	p.id, p.begun = m.lastId, true
}

// fill asks for all that the window should have.
func (m *model) fill() {
	count := 0
	for _, p := range m.parts {
		if m.state != api.Going || p.whole() {
			continue
		}
		if count++; count <= m.s.Window && !p.begun {
			m.ask(p)
		}
	}
}

func (m *model) requested() []*modelPart {
	var list []*modelPart
	for _, p := range m.parts {
		if m.state == api.Going && p.id > 0 {
			list = append(list, p)
		}
	}
	slices.SortFunc(list, func(a, b *modelPart) int { return cmp.Compare(a.id, b.id) })
	return list
}

func (m *model) asked() []api.Request {
	var list []api.Request
	for _, p := range m.requested() {
		list = append(list, api.Request{Id: p.id, Place: p.place + len(p.data), Length: p.length - len(p.data)})
	}
	return list
}

func (m *model) answer(id int, data string) api.Errno {
	for _, p := range m.requested() {
		if p.id != id {
			continue
		}
		if len(p.data)+len(data) > p.length {
			return api.ErrData
		}
		p.id = 0
		if p.data += data; data == "" {
			m.failed(p)
		} else if !p.whole() {
			m.ask(p)
		} else {
			m.came(p)
		}
		m.fill()
		return api.OK
	}
	return api.ErrId
}

func (m *model) failed(p *modelPart) {
	p.failures++
	m.fails++
	if p.failures == m.s.Tries {
		m.state = api.Unavailable
		return
	}
	p.due, p.order = m.clock+[]int{0, 1, 2, 4}[p.failures], m.fails
}

func (m *model) tick() {
	if m.state != api.Going {
		return
	}
	m.clock++
	due := slices.DeleteFunc(slices.Clone(m.parts), func(p *modelPart) bool {
		return !p.begun || p.whole() || p.id > 0 || p.due != m.clock
	})
	slices.SortFunc(due, func(a, b *modelPart) int { return cmp.Compare(a.order, b.order) })
	for _, p := range due {
		m.ask(p)
	}
}

func (m *model) came(p *modelPart) {
	switch p {
	case m.parts[0]:
		length := int(p.data[0])*256 + int(p.data[1])
		if p.data[2:] != "COL1" || length == 0 || m.size-6-length < 4 {
			m.state = api.Malformed
			return
		}
		m.parts = append(m.parts, &modelPart{place: m.size - 6 - length, length: length})
	case m.parts[1]:
		m.state = m.readFooter(p)
	default:
		for _, page := range p.pages {
			data := p.data[page.place-p.place:][:page.length]
			list, right := modelValues(data, page.rows)
			if !right || sum(data) != page.sum {
				m.state = api.Malformed
				return
			}
			m.lists[page.key] = list
		}
	}
}

// modelNumbers takes what it can off the front of a text; once it can't, it is bad.
type modelNumbers struct {
	text string
	bad  bool
}

func (b *modelNumbers) take(n int) string {
	if n > len(b.text) {
		b.text, b.bad = "", true
		return ""
	}
	front := b.text[:n]
	b.text = b.text[n:]
	return front
}

func (b *modelNumbers) number() int {
	n, length := binary.Uvarint([]byte(b.text))
	if length <= 0 || n > api.MaxValue || varint(int(n)) != b.take(length) {
		b.text, b.bad = "", true
		return 0
	}
	return int(n)
}

func modelValues(data string, rows int) ([]int, bool) {
	b := &modelNumbers{text: data[1:]}
	var list []int
	for b.text != "" && len(list) <= rows {
		count, n := 1, b.number()
		switch {
		case data[0] == 1:
			if count, n = n, b.number(); count < 1 || count > rows {
				return nil, false
			}
		case data[0] == 2 && len(list) > 0:
			n += list[len(list)-1]
		}
		list = append(list, slices.Repeat([]int{n}, count)...)
	}
	right := !b.bad && data[0] < 3 && len(list) == rows && slices.Max(list) <= api.MaxValue
	return list, right
}

func (m *model) readFooter(p *modelPart) int {
	b := &modelNumbers{text: p.data}
	var names []string
	for range min(5, b.number()) {
		name := b.take(b.number())
		if len(name) < 1 || len(name) > 8 || slices.Contains(names, name) {
			return api.Malformed
		}
		names = append(names, name)
	}
	if len(names) < 1 || len(names) > 4 {
		return api.Malformed
	}
	var pieces []*modelPart
	groups := b.number()
	for g := range min(7, groups) {
		rows := b.number()
		m.rows = append(m.rows, rows)
		var pages []modelPage
		for column := range names {
			page := modelPage{place: b.number(), length: b.number(), sum: b.take(4), rows: rows}
			if page.place < 4 || page.length < 1 || page.place+page.length > p.place {
				return api.Malformed
			}
			page.key = [2]int{g, slices.Index(m.want, names[column])}
			pages = append(pages, page)
		}
		if rows < 1 || rows > 20 {
			return api.Malformed
		}
		pieces = append(pieces, m.join(pages)...)
	}
	if b.bad || b.text != "" || groups > 6 {
		return api.Malformed
	}
	for i, name := range m.want {
		if !slices.Contains(names, name) || slices.Contains(m.want[:i], name) {
			return api.BadColumn
		}
	}
	if len(m.want) == 0 {
		return api.BadColumn
	}
	m.parts = append(m.parts, pieces...)
	if groups == 0 {
		return api.Done
	}
	return api.Going
}

func (m *model) join(pages []modelPage) []*modelPart {
	pages = slices.DeleteFunc(pages, func(p modelPage) bool { return p.key[1] < 0 })
	slices.SortFunc(pages, func(a, b modelPage) int {
		return cmp.Or(cmp.Compare(a.place, b.place), cmp.Compare(a.key[1], b.key[1]))
	})
	var list []*modelPart
	for _, page := range pages {
		if len(list) > 0 {
			last := list[len(list)-1]
			end := max(last.place+last.length, page.place+page.length)
			if page.place <= last.place+last.length+m.s.Gap && end <= last.place+64 {
				last.length = end - last.place
				last.pages = append(last.pages, page)
				continue
			}
		}
		list = append(list, &modelPart{place: page.place, length: page.length, pages: []modelPage{page}})
	}
	return list
}

// next lays all rows that are there one behind the other, and cuts off what has been handed on.
func (m *model) next() [][]int {
	total := 0
	for _, rows := range m.rows {
		total += rows
	}
	count := min(m.s.Rows, total-m.handed)
	if m.state != api.Going || len(m.parts) < 3 || count == 0 {
		return nil
	}
	var lists [][]int
	for column := range m.want {
		var list []int
		for g := range m.rows {
			values := m.lists[[2]int{g, column}]
			if values == nil {
				break
			}
			list = append(list, values...)
		}
		if len(list) < m.handed+count {
			return nil
		}
		lists = append(lists, list[m.handed:m.handed+count])
	}
	if m.handed += count; m.handed == total {
		m.state = api.Done
	}
	return lists
}

func (m *model) cancel() {
	if m.state == api.Going {
		m.state = api.Cancelled
	}
}
