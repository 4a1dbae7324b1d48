package colscan_test

import (
	"hash/fnv"
	"math"
	"slices"
	"strings"
	"testing"

	"colscan/api"
	"colscan/colscan"
)

func table(names []string, groups ...[][]int) api.Table {
	return api.Table{Names: names, Groups: groups}
}

func names(list ...string) []string { return list }

// sum of bytes; the library's hash is the same rule, written by others.
func sum(data string) string {
	h := fnv.New32a()
	h.Write([]byte(data))
	return string(h.Sum(nil))
}

func mustBe(t *testing.T, why string, x api.Table, want string) {
	t.Helper()
	if got, err := colscan.Write(x); got != want || err != api.OK {
		t.Errorf("P3: %s: Write(%v) = %x, %d, want %x", why, x, got, err, want)
	}
}

func mustRefuse(t *testing.T, why string, x api.Table) {
	t.Helper()
	if got, err := colscan.Write(x); got != "" || err != api.ErrTable {
		t.Errorf("P3: %s: Write(%v) = %x, %d, want ErrTable and nothing", why, x, got, err)
	}
}

func TestWriteExample(t *testing.T) {
	mustBe(t, "the document's", table(names("a"), [][]int{{5, 5, 5}}),
		"COL1\x01\x03\x05\x01\x01a\x01\x03\x04\x03\x78\xd1\xab\xc8\x00\x0bCOL1")
}

func TestWriteEachKind(t *testing.T) {
	plain, runs, rising := "\x00\x09\x07\x08", "\x01\x03\x05", "\x02\xac\x02\x01\x01"
	mustBe(t, "a column of each kind",
		table(names("a", "bb", "ccc"), [][]int{{9, 7, 8}, {5, 5, 5}, {300, 301, 302}}),
		"COL1"+plain+runs+rising+
			"\x03\x01a\x02bb\x03ccc\x01\x03"+
			"\x04\x04"+sum(plain)+"\x08\x03"+sum(runs)+"\x0b\x05"+sum(rising)+
			"\x00\x1eCOL1")
	mustBe(t, "a group of each kind",
		table(names("a"), [][]int{{9, 7, 8}}, [][]int{{5, 5, 5}}, [][]int{{300, 301, 302}}),
		"COL1"+plain+runs+rising+
			"\x01\x01a\x03"+
			"\x03\x04\x04"+sum(plain)+"\x03\x08\x03"+sum(runs)+"\x03\x0b\x05"+sum(rising)+
			"\x00\x19COL1")
}

func TestWriteGroupsThenColumns(t *testing.T) {
	mustBe(t, "two groups of unlike rows",
		table(names("a", "b"), [][]int{{1}, {2}}, [][]int{{4, 3}, {6, 5}}),
		"COL1\x00\x01\x00\x02\x00\x04\x03\x00\x06\x05"+
			"\x02\x01a\x01b\x02"+
			"\x01\x04\x02"+sum("\x00\x01")+"\x06\x02"+sum("\x00\x02")+
			"\x02\x08\x03"+sum("\x00\x04\x03")+"\x0b\x03"+sum("\x00\x06\x05")+
			"\x00\x20COL1")
}

func TestWriteNames(t *testing.T) {
	mustBe(t, "one name, no group", table(names("a")), "COL1\x01\x01a\x00\x00\x04COL1")
	mustBe(t, "MaxColumns names", table(names("d", "c", "b", "a")), "COL1\x04\x01d\x01c\x01b\x01a\x00\x00\x0aCOL1")
	mustBe(t, "MaxName bytes", table(names("12345678")), "COL1\x01\x0812345678\x00\x00\x0bCOL1")
	mustBe(t, "MaxName bytes, fewer letters", table(names("éééé")), "COL1\x01\x08éééé\x00\x00\x0bCOL1")
	mustBe(t, "no letters", table(names("\x00", "\xff\xfe", " ")), "COL1\x03\x01\x00\x02\xff\xfe\x01 \x00\x00\x09COL1")
	mustBe(t, "nearly the same", table(names("a", "A", "aa")), "COL1\x03\x01a\x01A\x02aa\x00\x00\x09COL1")

	mustRefuse(t, "nothing at all", api.Table{})
	mustRefuse(t, "no names", table([]string{}))
	mustRefuse(t, "no names, a group", table(nil, [][]int{{1}}))
	mustRefuse(t, "no names, a group of nothing", table(nil, [][]int{}))
	mustRefuse(t, "too many names", table(names("a", "b", "c", "d", "e")))
	mustRefuse(t, "an empty name", table(names("")))
	mustRefuse(t, "an empty name behind", table(names("a", "b", "c", "")))
	mustRefuse(t, "a name too long", table(names("123456789")))
	mustRefuse(t, "a name too long behind", table(names("a", "123456789")))
	mustRefuse(t, "few letters, too many bytes", table(names("ééééé")))
	mustRefuse(t, "the same name", table(names("a", "a")))
	mustRefuse(t, "the same name apart", table(names("a", "b", "c", "a")))
	mustRefuse(t, "the same name behind", table(names("a", "b", "c", "c")))
}

func TestWriteGroups(t *testing.T) {
	one := [][]int{{7}}
	page, entry := "\x00\x07", sum("\x00\x07")
	want := "COL1" + strings.Repeat(page, 6) + "\x01\x01a\x06"
	for place := 4; place < 16; place += 2 {
		want += "\x01" + string(rune(place)) + "\x02" + entry
	}
	mustBe(t, "MaxGroups groups", table(names("a"), one, one, one, one, one, one), want+"\x00\x2eCOL1")
	mustBe(t, "an empty list of groups", api.Table{Names: names("a"), Groups: [][][]int{}}, "COL1\x01\x01a\x00\x00\x04COL1")

	mustRefuse(t, "too many groups", table(names("a"), one, one, one, one, one, one, one))
	mustRefuse(t, "a nil group", table(names("a"), nil))
	mustRefuse(t, "a group of nothing", table(names("a"), [][]int{}))
	mustRefuse(t, "a nil group behind", table(names("a"), one, nil))
	mustRefuse(t, "too few lists", table(names("a", "b"), one))
	mustRefuse(t, "too many lists", table(names("a"), [][]int{{7}, {7}}))
	mustRefuse(t, "too many lists behind", table(names("a"), one, [][]int{{7}, {7}}))
}

func TestWriteRows(t *testing.T) {
	mustBe(t, "MaxRows rows", table(names("a"), [][]int{slices.Repeat([]int{3}, 20)}),
		"COL1\x01\x14\x03\x01\x01a\x01\x14\x04\x03"+sum("\x01\x14\x03")+"\x00\x0bCOL1")

	mustRefuse(t, "a nil list", table(names("a"), [][]int{nil}))
	mustRefuse(t, "an empty list", table(names("a"), [][]int{{}}))
	mustRefuse(t, "empty lists", table(names("a", "b"), [][]int{{}, nil}))
	mustRefuse(t, "an empty list behind", table(names("a", "b"), [][]int{{1}, {}}))
	mustRefuse(t, "an empty list ahead", table(names("a", "b"), [][]int{{}, {1}}))
	mustRefuse(t, "too many rows", table(names("a"), [][]int{make([]int, 21)}))
	mustRefuse(t, "far too many rows", table(names("a"), [][]int{make([]int, 1<<20)}))
	mustRefuse(t, "a list too long", table(names("a", "b"), [][]int{{1}, {1, 2}}))
	mustRefuse(t, "a list too short", table(names("a", "b"), [][]int{{1, 2}, {1}}))
	mustRefuse(t, "a list too short behind", table(names("a", "b"), [][]int{{1}, {1}}, [][]int{{1, 2}, {1}}))
}

func TestWriteValues(t *testing.T) {
	great := "\x00\xff\xff\xff\xff\xff\x1f\x00"
	mustBe(t, "MaxValue and 0", table(names("a"), [][]int{{api.MaxValue, 0}}),
		"COL1"+great+"\x01\x01a\x01\x02\x04\x08"+sum(great)+"\x00\x0bCOL1")
	bytes := "\x00\x80\x01\x7f"
	mustBe(t, "128 and 127", table(names("a"), [][]int{{128, 127}}),
		"COL1"+bytes+"\x01\x01a\x01\x02\x04\x04"+sum(bytes)+"\x00\x0bCOL1")

	for _, n := range []int{-1, math.MinInt, api.MaxValue + 1, math.MaxInt} {
		mustRefuse(t, "a wrong value", table(names("a"), [][]int{{n}}))
		mustRefuse(t, "a wrong value at the end", table(names("a", "b"), [][]int{{1, 2}, {3, 4}}, [][]int{{1, 2}, {3, n}}))
		mustRefuse(t, "a wrong value in a run", table(names("a"), [][]int{{n, n, n}}))
	}
}

func TestWritePlacesOfTwoBytes(t *testing.T) {
	// Pages of 121 bytes each: the places are 4, 125 and 246, the last of them a varint of two bytes.
	wide := make([]int, 20)
	page := "\x00"
	for i := range wide {
		wide[i] = api.MaxValue - i%2
		page += string([]byte{0xff - byte(i%2)}) + "\xff\xff\xff\xff\x1f"
	}
	mustBe(t, "three wide pages", table(names("a", "b", "c"), [][]int{wide, wide, wide}),
		"COL1"+page+page+page+"\x03\x01a\x01b\x01c\x01\x14"+
			"\x04\x79"+sum(page)+"\x7d\x79"+sum(page)+"\xf6\x01\x79"+sum(page)+
			"\x00\x1cCOL1")
}

func TestWriteGreatest(t *testing.T) {
	wide := make([]int, 20)
	for i := range wide {
		wide[i] = api.MaxValue - i%2
	}
	full := [][]int{wide, wide, wide, wide}
	x := table(names("12345678", "22345678", "32345678", "42345678"), full, full, full, full, full, full)
	if file, err := colscan.Write(x); len(file) != 3124 || err != api.OK {
		t.Errorf("P3: the greatest table makes %d bytes, error %d, want 3124, OK", len(file), err)
	}
	full[3] = slices.Repeat([]int{-1}, 20)
	mustRefuse(t, "the greatest with wrong values", x)
}
