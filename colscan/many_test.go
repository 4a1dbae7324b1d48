package colscan_test

import (
	"fmt"
	"math/rand"
	"reflect"
	"slices"
	"strings"
	"testing"

	"colscan/api"
	"colscan/colscan"
)

func someSettings(r *rand.Rand) api.Settings {
	return api.Settings{Window: 1 + r.Intn(4), Tries: 1 + r.Intn(4), Rows: 1 + r.Intn(20), Gap: r.Intn(33)}
}

func rightTable(r *rand.Rand) api.Table {
	for {
		if x := someTable(r); within(x) {
			return x
		}
	}
}

// someColumns has some of the names, in any order, one at least.
func someColumns(r *rand.Rand, all []string) []string {
	want := slices.Clone(all)
	r.Shuffle(len(want), func(i, j int) { want[i], want[j] = want[j], want[i] })
	return want[:1+r.Intn(len(want))]
}

// columnsOf has all the values of each wanted column.
func columnsOf(x api.Table, want []string) [][]int {
	lists := make([][]int, len(want))
	for i, name := range want {
		for _, group := range x.Groups {
			lists[i] = append(lists[i], group[slices.Index(x.Names, name)]...)
		}
	}
	return lists
}

// reader drives a scan of a file, and holds what it sees against the table.
type reader struct {
	t    *testing.T
	x    *colscan.Scan
	file string
	s    api.Settings
	want [][]int // all that should come
	got  int     // rows that came
}

func (d *reader) look() {
	list := d.x.Asked()
	if len(list) > d.s.Window {
		d.t.Fatalf("P10: %d requests at a time, Window %d", len(list), d.s.Window)
	}
	for i, r := range list {
		if r.Place < 0 || r.Length < 1 || r.Place+r.Length > len(d.file) || i > 0 && list[i-1].Id >= r.Id {
			d.t.Fatalf("P10: %v of a file of %d bytes", list, len(d.file))
		}
	}
}

// next takes what is there, and answers whether there was something.
func (d *reader) next() bool {
	lists := d.x.Next()
	if len(lists) == 0 {
		return false
	}
	count := min(d.s.Rows, len(d.want[0])-d.got)
	for i, list := range lists {
		if len(lists) != len(d.want) || len(list) != count || !slices.Equal(list, d.want[i][d.got:d.got+count]) {
			d.t.Fatalf("P10: behind %d rows of %v came %v, %+v", d.got, d.want, lists, d.s)
		}
	}
	d.got += count
	return true
}

func (d *reader) ends(state int) {
	d.t.Helper()
	if got := d.x.State(); got != state || state == api.Done && d.got != len(d.want[0]) {
		d.t.Fatalf("P10: state %d, want %d; %d rows of %d, %+v", got, state, d.got, len(d.want[0]), d.s)
	}
}

func someReader(t *testing.T, r *rand.Rand) *reader {
	x := rightTable(r)
	file, err := colscan.Write(x)
	mustErr(t, "P3", err, api.OK)
	d := &reader{t: t, file: file, s: someSettings(r)}
	want := someColumns(r, x.Names)
	d.want = columnsOf(x, want)
	d.x, err = colscan.Open(len(file), want, d.s)
	mustErr(t, "P5", err, api.OK)
	return d
}

func TestManyScans(t *testing.T) {
	r := rand.New(rand.NewSource(10))
	for range 2000 {
		d := someReader(t, r)
		failures := map[int]int{} // of each piece, by its end, of which in a file that Write wrote no two have the same
		for step := 0; d.x.State() == api.Going; step++ {
			if step > 20000 {
				t.Fatalf("P10: no end: %+v, %x", d.s, d.file)
			}
			d.look()
			if r.Intn(3) == 0 {
				d.next()
			}
			list := d.x.Asked()
			if len(list) == 0 || r.Intn(6) == 0 {
				d.x.Tick()
				d.next()
				continue
			}
			q := list[r.Intn(len(list))]
			end := q.Place + q.Length
			if failures[end] < d.s.Tries-1 && r.Intn(3) == 0 {
				failures[end]++
				mustErr(t, "P6", d.x.Fail(q.Id), api.OK)
				continue
			}
			length := q.Length
			if r.Intn(2) == 0 {
				length = 1 + r.Intn(q.Length)
			}
			mustErr(t, "P6", d.x.Answer(q.Id, d.file[q.Place:q.Place+length]), api.OK)
		}
		d.ends(api.Done)
	}
}

// Failing s.Tries times ends a scan, and what was handed on by then is a beginning.
func TestManyScansThatFail(t *testing.T) {
	r := rand.New(rand.NewSource(11))
	ends := map[int]int{}
	for range 1000 {
		d := someReader(t, r)
		failures := map[int]int{}
		for d.x.State() == api.Going {
			d.look()
			d.next()
			list := d.x.Asked()
			if len(list) == 0 {
				d.x.Tick()
				continue
			}
			q := list[r.Intn(len(list))]
			if r.Intn(6) > 0 {
				mustErr(t, "P6", d.x.Answer(q.Id, d.file[q.Place:q.Place+1+r.Intn(q.Length)]), api.OK)
				continue
			}
			end := q.Place + q.Length
			failures[end]++
			mustErr(t, "P6", d.x.Fail(q.Id), api.OK)
			if failures[end] == d.s.Tries {
				d.ends(api.Unavailable)
			} else {
				d.ends(api.Going)
			}
		}
		ends[d.x.State()]++
		if d.next() {
			t.Fatalf("P9: rows behind the end")
		}
	}
	if ends[api.Done] < 100 || ends[api.Unavailable] < 100 || len(ends) != 2 {
		t.Errorf("ends %v: too few of one kind to tell", ends)
	}
}

// someFile lays the pages of a table anywhere, each in any kind, some over one another, and sometimes changes a byte.
func someFile(r *rand.Rand, x api.Table) string {
	var pages []string
	for _, group := range x.Groups {
		for _, list := range group {
			kinds := pagesOf(list)
			pages = append(pages, kinds[r.Intn(len(kinds))])
		}
	}
	bytes, places := "", make([]int, len(pages))
	far := []int{1, 3, 40}[r.Intn(3)]
	for _, i := range r.Perm(len(pages)) {
		if at := strings.Index(bytes, pages[i]); at >= 0 {
			places[i] = 4 + at
			continue
		}
		bytes += strings.Repeat("\x01", r.Intn(far))
		places[i] = 4 + len(bytes)
		bytes += pages[i]
	}
	footer := varint(len(x.Names))
	for _, name := range x.Names {
		footer += varint(len(name)) + name
	}
	footer += varint(len(x.Groups))
	for i, page := range pages {
		if i%len(x.Names) == 0 {
			footer += varint(len(x.Groups[i/len(x.Names)][0]))
		}
		footer += entry(places[i], page)
	}
	file := []byte(laid(bytes, footer))
	if r.Intn(3) == 0 {
		begin := []int{0, 4 + len(bytes), len(file) - 6}[r.Intn(3)]
		file[begin+r.Intn(len(file)-begin)] ^= 1 << r.Intn(8)
	}
	return string(file)
}

// wrongPage is a file of one page that has been changed, but has the right sum, so that what is wrong with it is known by its values alone.
func wrongPage(r *rand.Rand, rows int) string {
	kinds := pagesOf(someList(r, rows))
	page := []byte(kinds[r.Intn(len(kinds))])
	for range 1 + r.Intn(2) {
		i := r.Intn(len(page))
		page[i] = []byte{0, 1, 2, 3, page[i] ^ 128, page[i] + 1}[r.Intn(6)]
	}
	if r.Intn(4) == 0 {
		page = page[:1+r.Intn(len(page))]
	}
	return laid(string(page), "\x01\x01a\x01"+varint(rows)+entry(4, string(page)))
}

func someWant(r *rand.Rand, x api.Table) []string {
	switch r.Intn(20) {
	case 0:
		return nil
	case 1:
		return append(slices.Clone(x.Names), "q")
	case 2:
		return append(slices.Clone(x.Names), x.Names[0])
	}
	return someColumns(r, x.Names)
}

// both is a scan, and a model that has been asked the same.
type both struct {
	x    *colscan.Scan
	m    *model
	file string
	bad  int // how many of a hundred answers fail
	log  []string
}

// step does something to both, and answers what they answered.
func (b *both) step(r *rand.Rand) (got, want any) {
	list := b.m.asked()
	does := r.Intn(100)
	if does < 70 && len(list) > 0 {
		q := list[r.Intn(len(list))]
		data := b.file[q.Place : q.Place+q.Length]
		switch {
		case r.Intn(100) < b.bad:
			data = ""
		case does < 25:
			data = data[:1+r.Intn(len(data))]
		case does == 25:
			data += "x"
		case does == 26:
			data = strings.Repeat("\x01", len(data))
		}
		b.log = append(b.log, fmt.Sprintf("Answer(%d, %x)", q.Id, data))
		return b.x.Answer(q.Id, data), b.m.answer(q.Id, data)
	}
	switch {
	case does < 74:
		id := r.Intn(b.m.lastId + 3)
		b.log = append(b.log, fmt.Sprintf("Fail(%d)", id))
		return b.x.Fail(id), b.m.answer(id, "")
	case does < 76:
		id := r.Intn(b.m.lastId+5) - 2
		b.log = append(b.log, fmt.Sprintf("Answer(%d, x)", id))
		return b.x.Answer(id, "x"), b.m.answer(id, "x")
	case does < 90:
		b.log = append(b.log, "Tick()")
		b.x.Tick()
		b.m.tick()
		return nil, nil
	case does == 99 && r.Intn(20) == 0:
		b.log = append(b.log, "Cancel()")
		b.x.Cancel()
		b.m.cancel()
		return nil, nil
	}
	b.log = append(b.log, "Next()")
	return fmt.Sprint(b.x.Next()), fmt.Sprint(b.m.next())
}

func TestManyScansAgainstModel(t *testing.T) {
	r := rand.New(rand.NewSource(12))
	ends := map[int]int{}
	for i := range 6000 {
		table := rightTable(r)
		want := someWant(r, table)
		file := someFile(r, table)
		if i%4 == 0 {
			file, want = wrongPage(r, 1+r.Intn(4)), names("a")
		}
		s := someSettings(r)
		b := &both{m: newModel(len(file), want, s), file: file, bad: []int{0, 5, 30}[r.Intn(3)]}
		b.x, _ = colscan.Open(len(file), want, s)
		for range 40 + r.Intn(400) {
			got, want := b.step(r)
			asked, state := b.x.Asked(), b.x.State()
			if !reflect.DeepEqual(got, want) || !slices.Equal(asked, b.m.asked()) || state != b.m.state {
				t.Fatalf("P4 to P9: %x, %q, %+v: %v: answered %v, asked %v, state %d, want %v, %v, %d",
					file, b.m.want, s, b.log, got, asked, state, want, b.m.asked(), b.m.state)
			}
		}
		ends[b.x.State()]++
	}
	for state := api.Going; state <= api.Cancelled; state++ {
		if ends[state] < 50 {
			t.Errorf("ends %v: too few of one kind to tell", ends)
		}
	}
}

// Whatever the bytes are, a scan that is answered ends.
func TestAnyBytes(t *testing.T) {
	r := rand.New(rand.NewSource(13))
	for range 20000 {
		data := make([]byte, 10+r.Intn(60))
		for i := range data {
			data[i] = byte(r.Intn([]int{3, 256}[r.Intn(2)]))
		}
		copy(data[len(data)-6:], "\x00"+string(rune(1+r.Intn(len(data)-9)))+"COL1")
		copy(data[4:], []string{"", "\x01\x01a", "\x01\x01a\x01\x02\x04"}[r.Intn(3)])
		file := string(data)
		x := begin(t, file, "a", api.Settings{Window: 4, Tries: 1, Rows: 1, Gap: 32})
		m := newModel(len(file), names("a"), api.Settings{Window: 4, Tries: 1, Rows: 1, Gap: 32})
		for len(x.Asked()) > 0 {
			q := x.Asked()[0]
			m.answer(q.Id, file[q.Place:q.Place+q.Length])
			give(t, x, file, q.Id)
		}
		if x.State() != m.state {
			t.Fatalf("P4: %x: state %d, want %d", file, x.State(), m.state)
		}
	}
}
