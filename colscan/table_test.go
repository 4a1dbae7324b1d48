package colscan_test

import (
	"encoding/binary"
	"math/rand"
	"reflect"
	"slices"
	"strings"
	"testing"

	"colscan/api"
	"colscan/colscan"
)

// within is the rule of P3 for tables, told once more and otherwise than the program does.
func within(x api.Table) bool {
	seen := map[string]int{}
	for _, name := range x.Names {
		seen[name]++
		if name == "" || len(name) > 8 {
			return false
		}
	}
	if len(x.Names) == 0 || len(x.Names) > 4 || len(seen) != len(x.Names) || len(x.Groups) > 6 {
		return false
	}
	for _, group := range x.Groups {
		lengths := map[int]int{}
		for _, list := range group {
			lengths[len(list)]++
			if len(list) == 0 || len(list) > 20 || slices.Min(list) < 0 || slices.Max(list) >= 1<<40 {
				return false
			}
		}
		if len(group) != len(x.Names) || len(lengths) != 1 {
			return false
		}
	}
	return true
}

// pagesOf has each page that there may be for a list, by kinds.
func pagesOf(list []int) []string {
	plain, runs, rising := []byte{0}, []byte{1}, []byte{2}
	count := 0
	for i, n := range list {
		plain = binary.AppendUvarint(plain, uint64(n))
		count++
		if i == len(list)-1 || list[i+1] != n {
			runs = binary.AppendUvarint(runs, uint64(count))
			runs = binary.AppendUvarint(runs, uint64(n))
			count = 0
		}
		if i == 0 {
			rising = binary.AppendUvarint(rising, uint64(n))
		} else {
			rising = binary.AppendUvarint(rising, uint64(n-list[i-1]))
		}
	}
	pages := []string{string(plain), string(runs)}
	if slices.IsSorted(list) {
		pages = append(pages, string(rising))
	}
	return pages
}

// fileOf is the file of a table that is within the bounds.
func fileOf(x api.Table) string {
	varint := func(n int) string { return string(binary.AppendUvarint(nil, uint64(n))) }
	file := "COL1"
	footer := varint(len(x.Names))
	for _, name := range x.Names {
		footer += varint(len(name)) + name
	}
	footer += varint(len(x.Groups))
	for _, group := range x.Groups {
		footer += varint(len(group[0]))
		for _, list := range group {
			page := slices.MinFunc(pagesOf(list), func(a, b string) int { return len(a) - len(b) })
			footer += varint(len(file)) + varint(len(page)) + sum(page)
			file += page
		}
	}
	return file + footer + string(binary.BigEndian.AppendUint16(nil, uint16(len(footer)))) + "COL1"
}

// someList has now and then a length or a value just beyond the bounds.
func someList(r *rand.Rand, rows int) []int {
	if r.Intn(100) == 0 {
		rows = r.Intn(23)
	}
	list := make([]int, rows)
	bits := r.Intn(41)
	way := r.Intn(4)
	for i := range list {
		list[i] = r.Intn(1 << bits)
		if way == 1 && i > 0 && r.Intn(3) > 0 {
			list[i] = list[i-1]
		}
		if r.Intn(3000) == 0 {
			list[i] = []int{-1, 1 << 40}[r.Intn(2)]
		}
	}
	if way == 2 {
		slices.Sort(list)
	}
	return list
}

func someTable(r *rand.Rand) api.Table {
	var x api.Table
	for range 1 + r.Intn(4) {
		x.Names = append(x.Names, strings.Repeat(string(rune('a'+r.Intn(20))), 1+r.Intn(8)))
	}
	if r.Intn(30) == 0 {
		more := append(x.Names, "another", "another1", "")
		x.Names = more[:r.Intn(len(more)+1)]
	}
	for range r.Intn(7) + r.Intn(20)/19 {
		group := [][]int{}
		rows := 1 + r.Intn(20)
		for range x.Names {
			group = append(group, someList(r, rows))
		}
		if r.Intn(100) == 0 {
			group = group[:r.Intn(len(group)+1)]
		}
		x.Groups = append(x.Groups, group)
	}
	return x
}

func TestWriteManyTables(t *testing.T) {
	r := rand.New(rand.NewSource(1))
	written, refused := 0, 0
	for range 5000 {
		x := someTable(r)
		file, err := colscan.Write(x)
		again, errAgain := colscan.Write(x)
		if file != again || err != errAgain {
			t.Fatalf("P2: Write(%v) answered two things", x)
		}
		if !within(x) {
			refused++
			if file != "" || err != api.ErrTable {
				t.Fatalf("P3: Write(%v) = %x, %d, want ErrTable and nothing", x, file, err)
			}
			continue
		}
		written++
		if want := fileOf(x); file != want || err != api.OK {
			t.Fatalf("P3: Write(%v) = %x, %d, want %x", x, file, err, want)
		}
	}
	if written < 500 || refused < 500 {
		t.Errorf("%d tables written and %d refused: too few to tell", written, refused)
	}
}

// roomy lays a list into the midst of a greater one, and answers both.
func roomy[T any](list []T, around T) (inner, outer []T) {
	outer = append([]T{around, around}, list...)
	outer = append(outer, around, around, around)
	return outer[2 : 2+len(list)], outer
}

// guarded is a table whose lists all have room behind them, and all that lies there.
func guarded(x api.Table) (api.Table, []any) {
	var all []any
	names, outerNames := roomy(x.Names, "around")
	all = append(all, outerNames)
	var groups [][][]int
	for _, group := range x.Groups {
		var lists [][]int
		for _, list := range group {
			inner, outer := roomy(list, 77)
			lists = append(lists, inner)
			all = append(all, outer)
		}
		inner, outer := roomy(lists, []int{88})
		groups = append(groups, inner)
		all = append(all, outer)
	}
	inner, outer := roomy(groups, [][]int{{99}})
	return api.Table{Names: names, Groups: inner}, append(all, outer)
}

func TestWriteLeavesTheTable(t *testing.T) {
	for _, x := range []api.Table{
		table(names("a", "b"), [][]int{{3, 1, 2}, {5, 5, 5}}, [][]int{{300, 301}, {9, 9}}),
		table(names("b", "a"), [][]int{{3, 1, 2}, {5, 5, -1}}),
		table(names("b", "a"), [][]int{{3, 1, 2}, {5, 5}}),
		table(names("b", "b"), [][]int{{3}, {5}}),
		table(names("a")),
	} {
		given, all := guarded(x)
		_, before := guarded(x)
		first, err := colscan.Write(given)
		if !reflect.DeepEqual(all, before) {
			t.Errorf("P2: Write(%v) left %v, where there was %v", x, all, before)
		}
		if want, errWant := colscan.Write(x); first != want || err != errWant {
			t.Errorf("P2: Write(%v) hangs on the room behind its lists", x)
		}
	}
}

func TestWriteKeepsNothing(t *testing.T) {
	list := []int{5, 5, 5}
	x := table(names("a"), [][]int{list})
	first, _ := colscan.Write(x)
	copied := strings.Clone(first)
	list[0], x.Names[0] = 9, "z"
	second, err := colscan.Write(x)
	if first != copied {
		t.Errorf("P2: the first file is %x now, and was %x", first, copied)
	}
	if err != api.OK || second != fileOf(x) {
		t.Errorf("P2: the second file is %x, %d, want %x", second, err, fileOf(x))
	}
}
