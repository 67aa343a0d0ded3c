package colrun_test

import (
	"fmt"
	"math"
	"slices"
	"testing"

	"colrun/api"
	"colrun/colrun"
)

func TestDrop(t *testing.T) {
	s := colrun.New(roomy)
	if f := s.Drop("a"); f != placeless(api.ErrTable) {
		t.Errorf("P6: Drop of what is not there: %+v", f)
	}
	loadPages(t, s, "a", 3)
	loadPages(t, s, "b", 2)
	for _, name := range []string{"", "A", "aa", "c", "a\x00"} {
		if f := s.Drop(name); f != placeless(api.ErrTable) {
			t.Errorf("P6: Drop of %q: %+v", name, f)
		}
	}
	names(t, s, "a", "b")
	used(t, s, 5)
	drop(t, s, "a")
	names(t, s, "b")
	used(t, s, 2)
	isNotRead(t, s, "a", placeless(api.ErrTable))
	reads(t, s, "b", ofPages("b", 2).Rows)
	if f := s.Drop("a"); f != placeless(api.ErrTable) {
		t.Errorf("P6: Drop of what is not there any more: %+v", f)
	}
	used(t, s, 2)
	drop(t, s, "b")
	names(t, s)
	used(t, s, 0)
}

// TestDropInEachOrder drops three tables in all orders, and looks at the others each time.
func TestDropInEachOrder(t *testing.T) {
	all := []string{"a", "b", "c"}
	for _, order := range [][]int{{0, 1, 2}, {0, 2, 1}, {1, 0, 2}, {1, 2, 0}, {2, 0, 1}, {2, 1, 0}} {
		s := colrun.New(roomy)
		for i, name := range all {
			loadPages(t, s, name, i+2)
		}
		left := slices.Clone(all)
		pages := 9
		for _, i := range order {
			drop(t, s, all[i])
			pages -= i + 2
			left = slices.DeleteFunc(left, func(name string) bool { return name == all[i] })
			names(t, s, left...)
			used(t, s, pages)
			for _, name := range left {
				reads(t, s, name, ofPages(name, slices.Index(all, name)+2).Rows)
			}
		}
	}
}

// TestPagesAreTakenAgain: the lowest ones that are not in use.
func TestPagesAreTakenAgain(t *testing.T) {
	s := colrun.New(roomy)
	loadPages(t, s, "a", 3)
	loadPages(t, s, "b", 2)
	loadPages(t, s, "c", 4)
	pagesAre(t, s, "a", 0, 1, 2)
	pagesAre(t, s, "b", 3, 4)
	pagesAre(t, s, "c", 5, 6, 7, 8)
	drop(t, s, "b")
	loadPages(t, s, "d", 1)
	pagesAre(t, s, "d", 3)
	loadPages(t, s, "e", 3)
	pagesAre(t, s, "e", 4, 9, 10)
	drop(t, s, "a")
	drop(t, s, "d")
	loadPages(t, s, "f", 6)
	pagesAre(t, s, "f", 0, 1, 2, 3, 11, 12)
	pagesAre(t, s, "c", 5, 6, 7, 8)
	pagesAre(t, s, "e", 4, 9, 10)
	drop(t, s, "c")
	drop(t, s, "e")
	drop(t, s, "f")
	loadPages(t, s, "a", 14)
	pagesAre(t, s, "a", upTo(0, 14)...)
}

// TestPagesOfARefusedLoad: they are taken again by the next one.
func TestPagesOfARefusedLoad(t *testing.T) {
	s := colrun.New(api.Disk{Quota: 6, Fail: 11})
	loadPages(t, s, "a", 2)
	loadPages(t, s, "b", 1)
	drop(t, s, "a")
	load(t, s, ofPages("c", 6), hows(0), 1, placeless(api.ErrQuota)) // five writes: 4 to 8
	if pages := takenPages(t, s); !slices.Equal(pages, []int{2}) {
		t.Fatalf("P1: behind a Load that the disk refused the pages %v are in use", pages)
	}
	load(t, s, ofPages("c", 5), hows(0), 1, placeless(api.ErrWrite)) // 9, 10 and 11
	if pages := takenPages(t, s); !slices.Equal(pages, []int{2}) {
		t.Fatalf("P1: behind a Load whose write failed the pages %v are in use", pages)
	}
	loadPages(t, s, "c", 5)
	pagesAre(t, s, "c", 0, 1, 3, 4, 5)
}

func TestQuota(t *testing.T) {
	x := documentTable()
	for quota := -2; quota <= 6; quota++ {
		s := colrun.New(api.Disk{Quota: quota})
		load(t, s, ofPages("empty", 0), hows(0), 1, placeless(api.OK))
		if quota < 4 {
			load(t, s, x, hows(0, 1), 2, placeless(api.ErrQuota))
			used(t, s, 0)
			names(t, s, "empty")
			isNotRead(t, s, "t", placeless(api.ErrTable))
			loadPages(t, s, "small", max(quota, 0))
			continue
		}
		load(t, s, x, hows(0, 1), 2, placeless(api.OK))
		reads(t, s, "t", x.Rows)
		load(t, s, ofPages("more", quota-3), hows(0), 1, placeless(api.ErrQuota))
		used(t, s, 4)
		loadPages(t, s, "more", quota-4)
		used(t, s, quota)
		load(t, s, ofPages("last", 1), hows(0), 1, placeless(api.ErrQuota))
		loadPages(t, s, "last", 0)
		drop(t, s, "t")
		load(t, s, ofPages("t", 5), hows(0), 1, placeless(api.ErrQuota))
		loadPages(t, s, "t", 4)
	}
	s := colrun.New(api.Disk{Quota: math.MinInt})
	load(t, s, ofPages("a", 1), hows(0), 1, placeless(api.ErrQuota))
}

// TestQuotaInsideASegment: the disk is full in the middle of a long segment.
func TestQuotaInsideASegment(t *testing.T) {
	x := inOneColumn("x", api.Int, counting(0, 64))
	for quota := range 10 {
		s := colrun.New(api.Disk{Quota: quota})
		load(t, s, x, hows(api.Plain), 64, placeless(api.ErrQuota))
		used(t, s, 0)
	}
	s := colrun.New(api.Disk{Quota: 10})
	load(t, s, x, hows(api.Plain), 64, placeless(api.OK))
	reads(t, s, "x", x.Rows)
}

// TestFailingWrite fails each write of three Loads in turn: at the first, a middle and the last page of each. The table is not there then, and a second Load of it goes well: the count of writes goes on.
func TestFailingWrite(t *testing.T) {
	sizes := []int{3, 4, 1}
	for fail := 1; fail <= 8; fail++ {
		s := colrun.New(api.Disk{Quota: 8, Fail: fail})
		writes, taken := 0, 0
		for i, n := range sizes {
			name := fmt.Sprint("table", i)
			if writes < fail && fail <= writes+n {
				load(t, s, ofPages(name, n), hows(0), 1, placeless(api.ErrWrite))
				used(t, s, taken)
				isNotRead(t, s, name, placeless(api.ErrTable))
				if slices.Contains(s.Tables(), name) {
					t.Errorf("P5: the write number %d fails: %q is there", fail, name)
				}
			}
			loadPages(t, s, name, n)
			pagesAre(t, s, name, upTo(taken, n)...)
			writes += n
			taken += n
		}
		names(t, s, "table0", "table1", "table2")
		used(t, s, 8)
		for i, n := range sizes {
			reads(t, s, fmt.Sprint("table", i), ofPages("", n).Rows)
		}
	}
}

// TestFailingWriteInsideASegment fails each page of a Load of long segments.
func TestFailingWriteInsideASegment(t *testing.T) {
	x := table("x", types(api.Int, api.Bool))
	for i := range 20 {
		x.Rows = append(x.Rows, row(number(int64(i)), truth(i%3 == 0)))
	}
	n := modelPages(x, hows(0, 0), 13)
	for fail := range n + 3 {
		s := colrun.New(api.Disk{Quota: n, Fail: fail})
		want := placeless(api.OK)
		if fail >= 1 && fail <= n {
			want = placeless(api.ErrWrite)
		}
		load(t, s, x, hows(0, 0), 13, want)
		if want.Code != api.OK {
			used(t, s, 0)
			names(t, s)
			load(t, s, x, hows(0, 0), 13, placeless(api.OK))
		}
		used(t, s, n)
		reads(t, s, "x", x.Rows)
	}
}

// TestCountOfWrites: each write is counted, of whatever Load, and nothing else is.
func TestCountOfWrites(t *testing.T) {
	s := colrun.New(api.Disk{Quota: 4, Fail: 10})
	loadPages(t, s, "a", 3) // 1 to 3
	load(t, s, ofPages("b", 2), hows(9), 1, placeless(api.ErrArg))
	load(t, s, ofPages("a", 1), hows(0), 1, placeless(api.ErrTable))
	load(t, s, ofPages("b", 17), hows(1), 17, atColumn(0))
	load(t, s, inOneColumn("b", api.Int, append(make([]api.Value, 17), counting(0, 17)...)), hows(1), 17, atColumn(0))
	load(t, s, ofPages("b", 3), hows(0), 1, placeless(api.ErrQuota)) // 4; the next two find no page
	loadPages(t, s, "empty", 0)
	reads(t, s, "a", ofPages("a", 3).Rows)
	spoil(t, s, 1, 9, 9)
	isNotRead(t, s, "a", atPage(1))
	drop(t, s, "a")
	loadPages(t, s, "a", 4) // 5 to 8
	load(t, s, ofPages("b", 1), hows(0), 1, placeless(api.ErrQuota))
	drop(t, s, "a")
	loadPages(t, s, "a", 1) // 9
	load(t, s, ofPages("b", 1), hows(0), 1, placeless(api.ErrWrite))
	used(t, s, 1)
	loadPages(t, s, "b", 3)
	used(t, s, 4)
}

// TestNoWriteFails: a Fail that no write has.
func TestNoWriteFails(t *testing.T) {
	for _, fail := range []int{0, -1, math.MinInt, math.MaxInt} {
		s := colrun.New(api.Disk{Quota: 300, Fail: fail})
		for range 5 {
			loadPages(t, s, "a", 200)
			drop(t, s, "a")
		}
	}
}

// shelf is a second store: which tables there are, and which pages each one has.
type shelf struct {
	quota, fail, writes int
	names               []string
	tables              map[string]api.Table
	pages               map[string][]int
}

func (m *shelf) load(x api.Table, hows []int, group int) api.Fault {
	if _, there := m.tables[x.Name]; there || len(m.names) == 6 {
		return placeless(api.ErrTable)
	}
	if f := firstDictionary(x, hows, group); f.Code != api.OK {
		return f
	}
	var own []int
	for _, segment := range modelSegments(x, hows, group) {
		for range (len(segment) + 55) / 56 {
			page, f := m.take(own)
			if f.Code != api.OK {
				return f
			}
			own = append(own, page)
		}
	}
	m.names = append(m.names, x.Name)
	m.tables[x.Name] = x
	m.pages[x.Name] = own
	return placeless(api.OK)
}

// firstDictionary is the fault of the first dictionary with too many values.
func firstDictionary(x api.Table, hows []int, group int) api.Fault {
	for from := 0; from < len(x.Rows); from += group {
		for c := range x.Types {
			different := map[api.Value]bool{}
			for _, r := range x.Rows[from:min(from+group, len(x.Rows))] {
				different[r[c]] = true
			}
			delete(different, null)
			if hows[c] == api.Dictionary && len(different) > 16 {
				return atColumn(c)
			}
		}
	}
	return placeless(api.OK)
}

// take is a page for a table that has some already.
func (m *shelf) take(own []int) (int, api.Fault) {
	inUse := slices.Clone(own)
	for _, pages := range m.pages {
		inUse = append(inUse, pages...)
	}
	if len(inUse) >= m.quota {
		return 0, placeless(api.ErrQuota)
	}
	m.writes++
	if m.writes == m.fail {
		return 0, placeless(api.ErrWrite)
	}
	page := 0
	for slices.Contains(inUse, page) {
		page++
	}
	return page, placeless(api.OK)
}

func (m *shelf) drop(name string) api.Fault {
	if _, there := m.tables[name]; !there {
		return placeless(api.ErrTable)
	}
	m.names = slices.DeleteFunc(m.names, func(n string) bool { return n == name })
	delete(m.tables, name)
	delete(m.pages, name)
	return placeless(api.OK)
}

// throwTable is a table, with ways and a group, that look thrown.
func (d *dice) throwTable(name string) (api.Table, []int, int) {
	x := table(name, nil)
	var ways []int
	for range 1 + d.below(6) {
		typ := 1 + d.below(3)
		x.Types = append(x.Types, typ)
		ways = append(ways, waysOf(typ)[d.below(len(waysOf(typ)))])
	}
	different := 1 + d.below(80)
	for range d.below(1 + d.below(100)) {
		r := row()
		for _, typ := range x.Types {
			r = append(r, d.value(typ, different))
		}
		x.Rows = append(x.Rows, r)
	}
	return x, ways, 1 + d.below(64)
}

// TestStoreAsModel loads and drops tables as they fall, and holds all that can be seen against the model.
func TestStoreAsModel(t *testing.T) {
	all := []string{"a", "b", "c", "d", "e", "f", "g", "h"}
	seen := map[api.Errno]int{}
	for seed := range 30 {
		d := &dice{state: uint64(seed)}
		disk := api.Disk{Quota: 10 + d.below(300), Fail: d.below(400)}
		s := colrun.New(disk)
		m := &shelf{quota: disk.Quota, fail: disk.Fail, tables: map[string]api.Table{}, pages: map[string][]int{}}
		for step := range 30 {
			name := all[d.below(len(all))]
			var got, want api.Fault
			if d.below(3) == 0 {
				got, want = s.Drop(name), m.drop(name)
			} else {
				x, ways, group := d.throwTable(name)
				got, want = s.Load(x, ways, group), m.load(x, ways, group)
			}
			if got != want {
				t.Fatalf("P5, P6: disk %+v, seed %d, step %d: %+v, want %+v", disk, seed, step, got, want)
			}
			seen[want.Code]++
			asModel(t, s, m)
		}
	}
	for _, code := range []api.Errno{api.OK, api.ErrTable, api.ErrDict, api.ErrQuota, api.ErrWrite} {
		if seen[code] < 10 {
			t.Errorf("the dice threw the code %d only %d times", code, seen[code])
		}
	}
}

func asModel(t *testing.T, s *colrun.Store, m *shelf) {
	t.Helper()
	names(t, s, m.names...)
	n := 0
	for _, name := range m.names {
		reads(t, s, name, m.tables[name].Rows)
		pagesAre(t, s, name, m.pages[name]...)
		n += len(m.pages[name])
	}
	used(t, s, n)
}
