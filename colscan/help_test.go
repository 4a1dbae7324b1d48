package colscan_test

import (
	"encoding/binary"
	"fmt"
	"strings"
	"testing"

	"colscan/api"
	"colscan/colscan"
)

func varint(n int) string { return string(binary.AppendUvarint(nil, uint64(n))) }

// laid is a file of these pages (all that lies between the mark and the footer) and this footer.
func laid(pages, footer string) string {
	return "COL1" + pages + footer + string(binary.BigEndian.AppendUint16(nil, uint16(len(footer)))) + "COL1"
}

// entry is what a footer says of a page.
func entry(place int, page string) string {
	return varint(place) + varint(len(page)) + sum(page)
}

// begin opens a scan of the file.
func begin(t *testing.T, file, want string, s api.Settings) *colscan.Scan {
	t.Helper()
	x, err := colscan.Open(len(file), strings.Fields(want), s)
	if x == nil || err != api.OK {
		t.Fatalf("P5: Open(%d, %q, %+v): error %d", len(file), want, s, err)
	}
	return x
}

// footed opens a scan of the file, and answers its tail and its footer.
func footed(t *testing.T, file, want string, s api.Settings) *colscan.Scan {
	t.Helper()
	x := begin(t, file, want, s)
	give(t, x, file, 1)
	give(t, x, file, 2)
	return x
}

// give answers a request with all that it asks for, out of the file.
func give(t *testing.T, x *colscan.Scan, file string, id int) {
	t.Helper()
	for _, r := range x.Asked() {
		if r.Id == id {
			mustErr(t, "P6: an answer", x.Answer(id, file[r.Place:r.Place+r.Length]), api.OK)
			return
		}
	}
	t.Errorf("P6: there is no request %d: %s", id, asked(x))
}

func fail(t *testing.T, x *colscan.Scan, id int) {
	t.Helper()
	mustErr(t, "P6: Fail", x.Fail(id), api.OK)
}

func mustErr(t *testing.T, why string, got, want api.Errno) {
	t.Helper()
	if got != want {
		t.Errorf("%s: error %d, want %d", why, got, want)
	}
}

// asked is id@place+length of each request.
func asked(x *colscan.Scan) string {
	var list []string
	for _, r := range x.Asked() {
		list = append(list, fmt.Sprintf("%d@%d+%d", r.Id, r.Place, r.Length))
	}
	return strings.Join(list, " ")
}

func mustAsk(t *testing.T, why string, x *colscan.Scan, want string) {
	t.Helper()
	if got := asked(x); got != want {
		t.Errorf("%s: asked for %q, want %q", why, got, want)
	}
}

func mustState(t *testing.T, why string, x *colscan.Scan, want int) {
	t.Helper()
	if got := x.State(); got != want {
		t.Errorf("%s: state %d, want %d", why, got, want)
	}
}

// handed is what Next answers, a list behind the other.
func handed(x *colscan.Scan) string {
	text := ""
	for _, list := range x.Next() {
		text += fmt.Sprint(list)
	}
	return text
}

func mustHand(t *testing.T, why string, x *colscan.Scan, want string) {
	t.Helper()
	if got := handed(x); got != want {
		t.Errorf("%s: Next: %q, want %q", why, got, want)
	}
}

// read scans a whole file, in which nothing fails: all that Next answered, and the last state.
func read(t *testing.T, file, want string) (string, int) {
	t.Helper()
	x := begin(t, file, want, api.Settings{Window: 2, Tries: 1, Rows: 20})
	text := ""
	for x.State() == api.Going {
		list := x.Asked()
		if len(list) == 0 {
			t.Fatalf("P10: %x goes on, and asks for nothing", file)
		}
		give(t, x, file, list[0].Id)
		text += handed(x)
	}
	return text, x.State()
}

func mustRead(t *testing.T, why, file, want, rows string) {
	t.Helper()
	if got, state := read(t, file, want); got != rows || state != api.Done {
		t.Errorf("%s: %x is read as %q, state %d, want %q, Done", why, file, got, state, rows)
	}
}

func mustEnd(t *testing.T, why, file, want string, end int) {
	t.Helper()
	if got, state := read(t, file, want); got != "" || state != end {
		t.Errorf("%s: %x is read as %q, state %d, want nothing, state %d", why, file, got, state, end)
	}
}
