package colrun_test

import (
	"math"
	"slices"
	"strings"
	"testing"

	"colrun/api"
	"colrun/colrun"
)

// TestStoreAlwaysEnds hands strange numbers, texts and lists to all calls of a store: with an error there is no result, and nothing is changed.
func TestStoreAlwaysEnds(t *testing.T) {
	strange := []int{math.MinInt, -65, -1, 0, 1, 2, 3, 4, 64, 65, 1 << 32, math.MaxInt}
	texts := []string{"", "t", "u", "\x00", strings.Repeat("t", 21), strings.Repeat("\xff", 100000)}
	rows := [][]api.Row{nil, {}, {nil}, {{}}, {{null}, {null, null}}, make([]api.Row, 200), make([]api.Row, 100000), {make(api.Row, 100000)}, {{{Kind: math.MinInt, N: math.MinInt64, S: "?"}}}, {{number(1)}, {number(1)}}}
	ends(t, "a call of Store", func() {
		for _, quota := range strange {
			s := colrun.New(api.Disk{Quota: quota, Fail: -quota})
			loaded := s.Load(documentTable(), hows(0, 0), 2).Code == api.OK
			for _, name := range texts {
				strangeCalls(t, s, name, strange, rows)
			}
			if loaded {
				reads(t, s, "t", documentTable().Rows)
			}
		}
	})
}

// strangeCalls loads what is no table, or is there already, or has no rows and is dropped again.
func strangeCalls(t *testing.T, s *colrun.Store, name string, strange []int, rows [][]api.Row) {
	t.Helper()
	before, tables := s.Used(), s.Tables()
	for _, n := range strange {
		for _, m := range strange {
			for _, list := range rows {
				x := table(name, types(n), list...)
				f := s.Load(x, hows(m), n)
				if f.Code == api.OK && !slices.Contains(tables, name) {
					drop(t, s, name)
				} else if f.Code == api.OK || f != placeless(f.Code) {
					t.Fatalf("P1, P5: Load of %d rows of the type %d, as %d: %+v", len(list), n, m, f)
				}
			}
		}
		s.Load(api.Table{Name: name, Types: make([]int, 100000)}, make([]int, 100000), n)
		if s.Spoil(n, 64+n&1, 1) || s.Spoil(-1, n, n) {
			t.Fatalf("P8: Spoil with %d", n)
		}
	}
	if !slices.Contains(tables, name) {
		isNotRead(t, s, name, placeless(api.ErrTable))
		if f := s.Drop(name); f != placeless(api.ErrTable) {
			t.Fatalf("P6: Drop(%.30q): %+v", name, f)
		}
	}
	used(t, s, before)
	names(t, s, tables...)
}

// TestLoadLeavesWhatItIsHanded looks at the lists, and at what lies behind them in the same memory.
func TestLoadLeavesWhatItIsHanded(t *testing.T) {
	for _, c := range []struct {
		disk  api.Disk
		group int
		how   int
		want  api.Fault
	}{
		{roomy, 2, 1, placeless(api.OK)},
		{roomy, 17, 1, atColumn(1)},
		{roomy, 65, 0, placeless(api.ErrArg)},
		{api.Disk{}, 2, 0, placeless(api.ErrQuota)},
		{api.Disk{Quota: 99, Fail: 4}, 2, 0, placeless(api.ErrWrite)},
	} {
		memory := table("m", types(api.Text, api.Int, api.Bool))
		for i := range 20 {
			memory.Rows = append(memory.Rows, row(null, number(int64(i)), text("behind")))
		}
		ways := hows(0, c.how, 9)
		handed := api.Table{Name: "m", Types: memory.Types[:2], Rows: slices.Clone(memory.Rows[:19])}
		for i, r := range handed.Rows {
			handed.Rows[i] = r[:2]
		}
		before, list := copyRows(memory.Rows), copyRows(handed.Rows)
		load(t, colrun.New(c.disk), handed, ways[:2], c.group, c.want)
		if !sameRows(memory.Rows, before) || !sameRows(handed.Rows, list) || !slices.Equal(memory.Types, types(3, 1, 2)) || !slices.Equal(ways, hows(0, c.how, 9)) {
			t.Errorf("P2: Load (%+v) left %+v and the ways %v", c.want, memory, ways)
		}
	}
}

// TestLoadKeepsNothing writes over all that was handed in.
func TestLoadKeepsNothing(t *testing.T) {
	s := colrun.New(roomy)
	x, ways := documentTable(), hows(0, 1)
	load(t, s, x, ways, 2, placeless(api.OK))
	for i, r := range x.Rows {
		for c := range r {
			r[c] = truth(true)
		}
		x.Rows[i] = row(null)
	}
	x.Types[0], x.Types[1] = api.Bool, 99
	ways[0], ways[1] = 99, 99
	x.Name = "other"
	names(t, s, "t")
	reads(t, s, "t", documentTable().Rows)
	load(t, s, documentTable(), hows(0, 0), 1, placeless(api.ErrTable))
}

// TestListsOfAStoreAreTheCallers writes into the lists that came out and appends to them, to the rows too.
func TestListsOfAStoreAreTheCallers(t *testing.T) {
	s := colrun.New(roomy)
	load(t, s, documentTable(), hows(3, 2), 3, placeless(api.OK))
	loadPages(t, s, "u", 5)
	for _, c := range []struct {
		name string
		want []api.Row
	}{{"t", documentTable().Rows}, {"u", ofPages("u", 5).Rows}} {
		first, _ := s.Scan(c.name)
		second, _ := s.Scan(c.name)
		for i := range first {
			for range 3 {
				first[i] = append(first[i], text("mine"))
			}
			if !sameRows(first[i+1:], c.want[i+1:]) {
				t.Fatalf("P2: what was appended to row %d of %q is in the rows behind it: %v", i, c.name, first)
			}
		}
		for _, r := range first {
			for k := range r[:cap(r)] {
				r[:cap(r)][k] = api.Value{Kind: 99}
			}
		}
		for i := range first {
			first[i] = nil
		}
		first = append(first[:0], slices.Repeat([]api.Row{row(text("mine"))}, 20)...)
		if !sameRows(second, c.want) {
			t.Errorf("P2: another list of rows of %q changed: %v", c.name, second)
		}
		reads(t, s, c.name, c.want)
	}
	l, m := s.Tables(), s.Tables()
	l[0], l[1] = "mine", "mine"
	l = append(l[:1], "mine", "mine", "mine")
	if !slices.Equal(m, []string{"t", "u"}) {
		t.Errorf("P2: another list of names changed: %q", m)
	}
	names(t, s, "t", "u")
	drop(t, s, "t")
	if !slices.Equal(m, []string{"t", "u"}) {
		t.Errorf("P2: a Drop changed a list of names that came out: %q", m)
	}
}

// TestRowsStayWhenTheTableGoes: what came out is not changed by what is done later.
func TestRowsStayWhenTheTableGoes(t *testing.T) {
	s := colrun.New(roomy)
	load(t, s, documentTable(), hows(0, 0), 1, placeless(api.OK))
	rows, _ := s.Scan("t")
	spoil(t, s, 0, 12, 255)
	drop(t, s, "t")
	loadPages(t, s, "t", 9)
	if !sameRows(rows, documentTable().Rows) {
		t.Errorf("P2: rows that came out ahead of a Drop changed: %v", rows)
	}
}

// TestStoresHaveNothingInCommon works two stores in turn.
func TestStoresHaveNothingInCommon(t *testing.T) {
	one, other := colrun.New(api.Disk{Quota: 5, Fail: 4}), colrun.New(api.Disk{Quota: 5, Fail: 4})
	loadPages(t, one, "a", 3)
	names(t, other)
	used(t, other, 0)
	isNotRead(t, other, "a", placeless(api.ErrTable))
	if other.Spoil(0, 0, 1) {
		t.Errorf("P2: the page of one store is in use in another")
	}
	loadPages(t, other, "b", 2)
	loadPages(t, other, "a", 1)
	spoil(t, one, 0, 0, 1)
	isNotRead(t, one, "a", atPage(0))
	reads(t, other, "b", ofPages("b", 2).Rows)
	reads(t, other, "a", ofPages("a", 1).Rows)
	load(t, one, ofPages("c", 1), hows(0), 1, placeless(api.ErrWrite))
	load(t, other, ofPages("c", 1), hows(0), 1, placeless(api.ErrWrite))
	loadPages(t, one, "c", 2)
	loadPages(t, other, "c", 2)
	drop(t, one, "a")
	names(t, one, "c")
	names(t, other, "b", "a", "c")
	used(t, one, 2)
	used(t, other, 5)
	reads(t, other, "a", ofPages("a", 1).Rows)
}
