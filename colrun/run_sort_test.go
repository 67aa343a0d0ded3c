package colrun_test

import (
	"testing"

	"colrun/api"
	"colrun/colrun"
)

// TestSorts: by each type, Down and not, NULL first both ways, by several keys, rows that are the same in all keys in the order of L.
func TestSorts(t *testing.T) {
	f := factsTable().Rows
	s := stored(t, factsTable(), noFacts())
	for _, c := range []struct {
		name  string
		keys  []api.Key
		order []int
	}{
		{"a number", []api.Key{key(0)}, []int{1, 5, 4, 2, 6, 0, 3}},
		{"a number, down", []api.Key{down(0)}, []int{1, 5, 0, 3, 2, 6, 4}},
		{"a truth value", []api.Key{key(1)}, []int{2, 5, 1, 3, 0, 4, 6}},
		{"a truth value, down", []api.Key{down(1)}, []int{2, 5, 0, 4, 6, 1, 3}},
		{"a text", []api.Key{key(2)}, []int{3, 1, 5, 2, 0, 4, 6}},
		{"a text, down", []api.Key{down(2)}, []int{3, 0, 4, 6, 2, 5, 1}},
		{"numbers at the edges", []api.Key{key(3)}, []int{3, 2, 4, 5, 1, 6, 0}},
		{"numbers at the edges, down", []api.Key{down(3)}, []int{3, 0, 6, 1, 5, 4, 2}},
		{"two, both up", []api.Key{key(0), key(2)}, []int{1, 5, 4, 2, 6, 3, 0}},
		{"two, the second down", []api.Key{key(0), down(2)}, []int{5, 1, 4, 6, 2, 3, 0}},
		{"two, the first down", []api.Key{down(1), key(2)}, []int{5, 2, 0, 4, 6, 3, 1}},
		{"three", []api.Key{key(2), down(1), down(0)}, []int{3, 1, 5, 2, 0, 6, 4}},
		{"four", []api.Key{key(1), key(1), down(1), key(3)}, []int{2, 5, 3, 1, 4, 6, 0}},
		{"one key twice, the second says nothing", []api.Key{down(0), key(0)}, []int{1, 5, 0, 3, 2, 6, 4}},
	} {
		var want []api.Row
		for _, i := range c.order {
			want = append(want, f[i])
		}
		runs(t, s, "Sort by "+c.name, plan(scan("facts"), sorted(0, c.keys...)), want...)
		runs(t, s, "Sort without rows by "+c.name, plan(scan("none"), sorted(0, c.keys...)))
	}
}

// mixedTable has n rows in no order, few different keys, and each row's number behind them, texts up to the longest.
func mixedTable(n int) api.Table {
	d := &dice{state: uint64(n)}
	x := table("mixed", types(1, 3, 2, 1))
	for i := range n {
		x.Rows = append(x.Rows, row(d.value(1, 5), d.value(3, 45), d.value(2, 2), number(int64(i))))
	}
	return x
}

// TestSortsOfManyRuns: of as many rows as Budget, of one less and more, of many runs, of more runs than can be held; always the same.
func TestSortsOfManyRuns(t *testing.T) {
	for _, n := range []int{1, 2, 3, 4, 5, 9, 64, 65, 129, 200} {
		x := mixedTable(n)
		s := stored(t, x)
		for _, keys := range [][]api.Key{{key(0)}, {down(0), key(1)}, {key(2)}, {down(3)}, {key(2), down(1), key(0), down(3)}} {
			p := plan(scan("mixed"), sorted(0, keys...))
			want := meantSort(keys, x.Rows)
			for _, budget := range []int{2, 3, 4, 5, 7, 8, 9, 13, 14, 15, 63, 64, 65, 99, 100, 101, 128, 199, 200, 201, n - 1, n, n + 1, n / 2, n/2 + 1, 1000} {
				if budget >= 2 {
					answersBy(t, s, "a Sort", p, api.Options{Batch: 10, Budget: budget}, want, placeless(api.OK))
				}
			}
		}
	}
}

// sortOf2000 is a plan that sorts as many rows as a node can have, all columns of which are as long as can be.
func sortOf2000() ([]api.Table, api.Plan) {
	l, r := table("l", types(1, 3, 3, 3, 3, 3)), table("r", types(1, 3, 3, 3, 3, 1))
	for i := range 50 {
		l.Rows = append(l.Rows, row(number(1), longText(40), longText(i%41), longText(40), longText(39), longText(i*7%41)))
	}
	for i := range 40 {
		r.Rows = append(r.Rows, row(number(1), longText(40), longText(40), longText(i*11%41), longText(38), number(int64(-i))))
	}
	return []api.Table{l, r}, plan(scan("l"), scan("r"), join(0, 1, api.Inner, pair(0, 0)), sorted(2, key(5), down(9), key(11)))
}

func TestSortsOf2000Rows(t *testing.T) {
	tables, p := sortOf2000()
	s := stored(t, tables...)
	joined := plan(p.Nodes[:3]...)
	below, f := s.Run(joined, someOptions[0])
	if len(below) != 2000 || f != placeless(api.OK) {
		t.Fatalf("P10: a Join: %d rows, %+v", len(below), f)
	}
	want := meantSort(p.Nodes[3].Keys, below)
	for _, budget := range []int{2, 3, 10, 44, 45, 46, 500, 999, 1000} {
		answersBy(t, s, "a Sort of 2000 rows", p, api.Options{Batch: 100, Budget: budget}, want, placeless(api.OK))
	}
}

// TestSortOfSorts: what one Sort leaves in order stays so in the next, where its keys are the same.
func TestSortOfSorts(t *testing.T) {
	x := mixedTable(120)
	s := stored(t, x)
	p := plan(scan("mixed"), sorted(0, down(3)), sorted(1, key(1)), sorted(2, down(0)))
	want := meantSort([]api.Key{down(0), key(1), down(3)}, x.Rows)
	runs(t, s, "three Sorts", p, want...)
	other := plan(scan("mixed"), sorted(0, key(0), key(1), key(3)), scan("mixed"), sorted(2, key(0)), union(1, 3), sorted(4, key(3)))
	wanted, _ := meant(other, []api.Table{x})
	runs(t, s, "a Sort of two", other, wanted...)
}

// TestSmallSortsTakeNoPage: a Sort of not more rows than Budget works on a full disk, and writes nothing.
func TestSmallSortsTakeNoPage(t *testing.T) {
	for _, n := range []int{0, 1, 2, 3, 50, 200} {
		x := mixedTable(n)
		pages := stored(t, x).Used()
		full := colrun.New(api.Disk{Quota: pages})
		load(t, full, x, hows(0, 0, 0, 0), 2, placeless(api.OK))
		next := colrun.New(api.Disk{Quota: pages + 1, Fail: pages + 1})
		load(t, next, x, hows(0, 0, 0, 0), 2, placeless(api.OK))
		p := plan(scan("mixed"), sorted(0, key(0)), sorted(1, down(1)))
		want := meantSort([]api.Key{down(1), key(0)}, x.Rows)
		for _, s := range []*colrun.Store{full, next} {
			for _, budget := range []int{max(n, 2), max(n, 2) + 1, 1000} {
				answersBy(t, s, "a small Sort", p, api.Options{Batch: 3, Budget: budget}, want, placeless(api.OK))
			}
		}
		// The write that fails is still ahead.
		load(t, next, ofPages("one", 1), hows(0), 1, placeless(api.ErrWrite))
		load(t, next, ofPages("one", 1), hows(0), 1, placeless(api.OK))
	}
}
