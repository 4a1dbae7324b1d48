package colscan_test

import (
	"strings"
	"testing"

	"colscan/api"
)

func TestTail(t *testing.T) {
	s := api.Settings{Window: 1, Tries: 1, Rows: 1}
	file := laid("\x01\x03\x05", "\x01\x01a\x01\x03"+entry(4, "\x01\x03\x05")) // 24 bytes
	for _, c := range []struct {
		tail, next string
	}{
		{"\x00\x01COL1", "2@17+1"},
		{"\x00\x0bCOL1", "2@7+11"},
		{"\x00\x0eCOL1", "2@4+14"},
		{"\x00\x00COL1", ""},
		{"\x00\x0fCOL1", ""},
		{"\x01\x0bCOL1", ""},
		{"\xff\xffCOL1", ""},
		{"\x00\x0bcOL1", ""},
		{"\x00\x0bCoL1", ""},
		{"\x00\x0bCOl1", ""},
		{"\x00\x0bCOL2", ""},
		{"COL1\x00\x0b", ""},
	} {
		x := begin(t, file, "a", s)
		mustErr(t, "P6: the tail", x.Answer(1, c.tail), api.OK)
		mustAsk(t, "P4", x, c.next)
		if c.next == "" {
			mustState(t, "P4: a tail "+c.tail, x, api.Malformed)
		} else {
			mustState(t, "P4: a tail "+c.tail, x, api.Going)
		}
	}
}

// The mark at the file's beginning is nothing that a scan reads.
func TestBeginningIsNotLookedAt(t *testing.T) {
	file := laid("\x00\x07", "\x01\x01a\x01\x01"+entry(4, "\x00\x07"))
	mustRead(t, "P4: another beginning", "XXXX"+file[4:], "a", "[7]")
}

// manyNames is a footer's beginning, of so many columns with names of one byte.
func manyNames(count int) string {
	text := varint(count)
	for i := range count {
		text += "\x01" + string(rune('a'+i))
	}
	return text
}

func TestFooterColumns(t *testing.T) {
	mustRead(t, "P4: one column", laid("", manyNames(1)+"\x00"), "a", "")
	mustRead(t, "P4: MaxColumns", laid("", manyNames(4)+"\x00"), "d", "")
	mustEnd(t, "P4: no columns", laid("", "\x00\x00"), "a", api.Malformed)
	mustEnd(t, "P4: no columns and a group", laid("", "\x00\x01\x01"), "a", api.Malformed)
	mustEnd(t, "P4: too many columns", laid("", manyNames(5)+"\x00"), "a", api.Malformed)
	mustEnd(t, "P4: 128 columns", laid("", "\x80\x01\x01a\x00"), "a", api.Malformed)
	mustEnd(t, "P4: columns not in the shortest form", laid("", "\x81\x00\x01a\x00"), "a", api.Malformed)
}

func TestFooterNames(t *testing.T) {
	mustRead(t, "P4: MaxName bytes", laid("", "\x01\x0812345678\x00"), "12345678", "")
	mustRead(t, "P4: no letters", laid("", "\x02\x01\x00\x02\xff\xfe\x00"), "\xff\xfe", "")
	mustRead(t, "P4: nearly the same names", laid("", "\x03\x01a\x02aa\x01A\x00"), "A", "")
	mustEnd(t, "P4: an empty name", laid("", "\x01\x00\x00"), "a", api.Malformed)
	mustEnd(t, "P4: an empty name behind", laid("", "\x02\x01a\x00\x00"), "a", api.Malformed)
	mustEnd(t, "P4: a name too long", laid("", "\x01\x09123456789\x00"), "123456789", api.Malformed)
	mustEnd(t, "P4: a name's length not in the shortest form", laid("", "\x01\x81\x00a\x00"), "a", api.Malformed)
	mustEnd(t, "P4: a name beyond the footer", laid("", "\x01\x08a\x00"), "a", api.Malformed)
	mustEnd(t, "P4: a name far beyond the footer", laid("", "\x01\xff\xff\xff\xff\xff\xff\xff\xff\x7fa\x00"), "a", api.Malformed)
	mustEnd(t, "P4: two names the same", laid("", "\x02\x01a\x01a\x00"), "a", api.Malformed)
	mustEnd(t, "P4: two names the same, another wanted", laid("", "\x03\x01a\x01b\x01a\x00"), "b", api.Malformed)
}

func TestFooterGroups(t *testing.T) {
	groups := func(count string, n int) string {
		return laid("\x00\x07", "\x01\x01a"+count+strings.Repeat("\x01"+entry(4, "\x00\x07"), n))
	}
	mustRead(t, "P4: no groups", groups("\x00", 0), "a", "")
	mustRead(t, "P4: one group", groups("\x01", 1), "a", "[7]")
	mustRead(t, "P4: MaxGroups", groups("\x06", 6), "a", "[7 7 7 7 7 7]")
	mustEnd(t, "P4: too many groups", groups("\x07", 7), "a", api.Malformed)
	mustEnd(t, "P4: groups not in the shortest form", groups("\x81\x00", 1), "a", api.Malformed)
	mustEnd(t, "P4: no groups, not in the shortest form", groups("\x80\x00", 0), "a", api.Malformed)
	mustEnd(t, "P4: a group behind the last", groups("\x01", 2), "a", api.Malformed)
	mustEnd(t, "P4: a group too few", groups("\x02", 1), "a", api.Malformed)
	mustEnd(t, "P4: no word of groups", laid("", "\x01\x01a"), "a", api.Malformed)
	mustEnd(t, "P4: a byte behind", laid("", "\x01\x01a\x00\x00"), "a", api.Malformed)
}

func TestFooterRows(t *testing.T) {
	rows := func(count, page string) string {
		return laid(page, "\x01\x01a\x01"+count+entry(4, page))
	}
	mustRead(t, "P4: MaxRows", rows("\x14", "\x01\x14\x07"), "a", "[7"+strings.Repeat(" 7", 19)+"]")
	mustEnd(t, "P4: no rows", rows("\x00", "\x00"), "a", api.Malformed)
	mustEnd(t, "P4: too many rows", rows("\x15", "\x01\x15\x07"), "a", api.Malformed)
	mustEnd(t, "P4: rows not in the shortest form", rows("\x81\x00", "\x00\x07"), "a", api.Malformed)
	mustEnd(t, "P4: far too many rows", rows("\xff\xff\xff\xff\xff\xff\xff\xff\x7f", "\x00\x07"), "a", api.Malformed)
}

// TestFooterPlaces has a column a that is right, and a column b whose page is anywhere; only a is wanted, but the footer is looked at whole.
func TestFooterPlaces(t *testing.T) {
	const page = "\x00\x07"
	file := func(place, length string) string {
		return laid(page+"\x00\x09", "\x02\x01a\x01b\x01\x01"+entry(4, page)+place+length+sum("\x00\x09"))
	}
	far := "\xff\xff\xff\xff\xff\xff\xff\xff\x7f"
	wide := strings.Repeat("\x80", 9) + "\x01"
	for _, c := range []struct {
		why, place, length string
		right              bool
	}{
		{"just ahead of the footer", "\x06", "\x02", true},
		{"the first place", "\x04", "\x01", true},
		{"all the pages' bytes", "\x04", "\x04", true},
		{"the last byte", "\x07", "\x01", true},
		{"place 3", "\x03", "\x02", false},
		{"place 0", "\x00", "\x08", false},
		{"length 0", "\x06", "\x00", false},
		{"length 0 at the footer", "\x08", "\x00", false},
		{"an end one beyond", "\x06", "\x03", false},
		{"an end one beyond from the first place", "\x04", "\x05", false},
		{"a place at the footer", "\x08", "\x01", false},
		{"a place in the tail", "\x20", "\x01", false},
		{"a place not in the shortest form", "\x86\x00", "\x02", false},
		{"a length not in the shortest form", "\x06", "\x82\x00", false},
		{"a place far beyond", far, "\x01", false},
		{"a length far beyond", "\x06", far, false},
		{"both far beyond", far, far, false},
		{"a place too wide", wide, "\x02", false},
		{"a length too wide", "\x06", wide, false},
	} {
		if c.right {
			mustRead(t, "P4: "+c.why, file(c.place, c.length), "a", "[7]")
		} else {
			mustEnd(t, "P4: "+c.why, file(c.place, c.length), "a", api.Malformed)
		}
	}
}

func TestFooterCutOff(t *testing.T) {
	const page = "\x00\x07"
	footer := "\x02\x01a\x02bb\x02\x01" + entry(4, page) + entry(4, page) + "\x01" + entry(4, page) + entry(4, page)
	mustRead(t, "P4: a whole footer", laid(page, footer), "bb", "[7 7]")
	for i := 1; i < len(footer); i++ {
		mustEnd(t, "P4: a footer cut off", laid(page, footer[:i]), "bb", api.Malformed)
	}
	for _, more := range []string{"\x00", "\x01", "\x80", footer} {
		mustEnd(t, "P4: bytes behind the footer", laid(page, footer+more), "bb", api.Malformed)
	}
}

// A footer that is malformed is so whatever is wanted.
func TestMalformedAheadOfBadColumn(t *testing.T) {
	mustEnd(t, "P7: nothing wanted", laid("", "\x01\x01a\x00\x00"), "", api.Malformed)
	mustEnd(t, "P7: no column's name", laid("", "\x01\x01a\x00\x00"), "q", api.Malformed)
	mustEnd(t, "P7: two the same", laid("", "\x01\x01a\x00\x00"), "a a", api.Malformed)
}

// onePage is a file of one column a and one group.
func onePage(rows int, page string) string {
	return laid(page, "\x01\x01a\x01"+varint(rows)+entry(4, page))
}

func TestPagesThatAreRight(t *testing.T) {
	const most = "\xff\xff\xff\xff\xff\x1f"
	for _, c := range []struct {
		rows       int
		page, want string
	}{
		{1, "\x00\x00", "[0]"},
		{3, "\x00\x05\x05\x05", "[5 5 5]"},
		{2, "\x00\x80\x01\x7f", "[128 127]"},
		{1, "\x00" + most, "[1099511627775]"},
		{1, "\x01\x01\x05", "[5]"},
		{3, "\x01\x01\x05\x01\x05\x01\x05", "[5 5 5]"},
		{3, "\x01\x01\x05\x02\x04", "[5 4 4]"},
		{2, "\x01\x02" + most, "[1099511627775 1099511627775]"},
		{1, "\x02\x05", "[5]"},
		{3, "\x02\x05\x00\x80\x01", "[5 5 133]"},
		{2, "\x02\x00" + most, "[0 1099511627775]"},
	} {
		mustRead(t, "P4: a page", onePage(c.rows, c.page), "a", c.want)
	}
}

func TestPagesThatAreMalformed(t *testing.T) {
	const beyond = "\x80\x80\x80\x80\x80\x20"
	for _, c := range []struct {
		why  string
		rows int
		page string
	}{
		{"kind 3", 1, "\x03\x05"},
		{"kind 128", 1, "\x80\x05"},
		{"kind 255", 1, "\xff\x05"},
		{"a kind alone", 1, "\x00"},
		{"too few", 2, "\x00\x05"},
		{"too many", 1, "\x00\x05\x05"},
		{"not the shortest", 1, "\x00\x85\x00"},
		{"beyond MaxValue", 1, "\x00" + beyond},
		{"a run of 0", 1, "\x01\x00\x05"},
		{"a run of 0 behind", 1, "\x01\x01\x05\x00\x05"},
		{"a run beyond the rows", 2, "\x01\x03\x05"},
		{"a last run beyond the rows", 2, "\x01\x01\x05\x02\x05"},
		{"a run too few", 2, "\x01\x01\x05"},
		{"a run too many", 2, "\x01\x02\x05\x01\x05"},
		{"a run beyond MaxValue", 2, "\x01\x02" + beyond},
		{"a run's length not the shortest", 2, "\x01\x82\x00\x05"},
		{"a run's value not the shortest", 2, "\x01\x02\x85\x00"},
		{"a run without its value", 2, "\x01\x02"},
		{"rising beyond MaxValue", 2, "\x02\xff\xff\xff\xff\xff\x1f\x01"},
		{"rising far beyond", 2, "\x02\x01\xff\xff\xff\xff\xff\xff\xff\xff\x7f"},
		{"rising, too few", 3, "\x02\x05\x01"},
		{"rising, too many", 1, "\x02\x05\x01"},
		{"rising, not the shortest", 2, "\x02\x05\x81\x00"},
	} {
		mustEnd(t, "P4: "+c.why, onePage(c.rows, c.page), "a", api.Malformed)
	}
}

func TestEveryOtherByteOfAPage(t *testing.T) {
	file := onePage(2, "\x00\x05\x06")
	for place := 4; place < 7; place++ {
		for change := 1; change < 256; change++ {
			other := []byte(file)
			other[place] ^= byte(change)
			mustEnd(t, "P4: another sum", string(other), "a", api.Malformed)
		}
	}
	sumAt := strings.Index(file, sum("\x00\x05\x06"))
	for i := range 4 {
		other := []byte(file)
		other[sumAt+i] ^= 1
		mustEnd(t, "P4: another sum in the footer", string(other), "a", api.Malformed)
	}
}

// twoColumns has a page that is right for a, and this one for b.
func twoColumns(b string) string {
	return laid("\x00\x07"+b, "\x02\x01a\x01b\x01\x01"+entry(4, "\x00\x07")+entry(6, b))
}

func TestPagesThatNobodyWants(t *testing.T) {
	for _, b := range []string{"\x03\x01", "\x00", "\x00\x01\x02", "\x00\x80\x00", "\x01\x00\x05"} {
		mustRead(t, "P4: a malformed page that nobody wants", twoColumns(b), "a", "[7]")
		mustEnd(t, "P4: the same, wanted", twoColumns(b), "b", api.Malformed)
		mustEnd(t, "P4: the same, wanted too", twoColumns(b), "a b", api.Malformed)
		mustEnd(t, "P4: the same, wanted first", twoColumns(b), "b a", api.Malformed)
	}
	other := []byte(twoColumns("\x00\x09"))
	other[7] = 8
	mustRead(t, "P4: another sum of a page that nobody wants", string(other), "a", "[7]")
	mustEnd(t, "P4: the same, wanted", string(other), "b", api.Malformed)
}

// A page within a gap is fetched with its neighbours, and is not looked at for that.
func TestPageInAGapIsNotLookedAt(t *testing.T) {
	pages := []string{"\x00\x07", "\x03\x01", "\x00\x09"}
	file := laid(strings.Join(pages, ""), "\x03\x01a\x01b\x01c\x01\x01"+entry(4, pages[0])+entry(6, pages[1])+entry(8, pages[2]))
	x := footed(t, file, "a c", api.Settings{Window: 1, Tries: 1, Rows: 1, Gap: 2})
	mustAsk(t, "P7", x, "3@4+6")
	give(t, x, file, 3)
	mustHand(t, "P4: a page in a gap", x, "[7][9]")
	mustState(t, "P4: a page in a gap", x, api.Done)
}

func TestGreatestFile(t *testing.T) {
	great := laid(strings.Repeat("\xff", 3976)+"\x00\x07", "\x01\x01a\x01\x01"+entry(3980, "\x00\x07"))
	if len(great) != api.MaxFile {
		t.Fatalf("the file has %d bytes", len(great))
	}
	mustRead(t, "P4: a file of MaxFile bytes", great, "a", "[7]")
}
