package colrun_test

import (
	"testing"

	"colrun/api"
	"colrun/colrun"
)

// joins fails unless a Join of the tables l and r has, by each kind, what these pairs mean: for each row of l the numbers of the rows of r that fit it.
func joins(t *testing.T, s *colrun.Store, name string, l, r api.Table, keys []api.Key, fits [][]int) {
	t.Helper()
	var inner, left, semi, anti []api.Row
	for i, numbers := range fits {
		for _, k := range numbers {
			inner = append(inner, behind(l.Rows[i], r.Rows[k]))
			left = append(left, behind(l.Rows[i], r.Rows[k]))
		}
		if len(numbers) > 0 {
			semi = append(semi, l.Rows[i])
		} else {
			anti = append(anti, l.Rows[i])
			left = append(left, behind(l.Rows[i], make(api.Row, len(r.Types))))
		}
	}
	for kind, want := range [][]api.Row{inner, left, semi, anti} {
		p := plan(scan(l.Name), scan(r.Name), join(0, 1, kind, keys...))
		runs(t, s, name+", kind "+string(rune('0'+kind)), p, want...)
		p = plan(scan(r.Name), scan(l.Name), join(1, 0, kind, keys...))
		runs(t, s, name+", the right side worked first, kind "+string(rune('0'+kind)), p, want...)
	}
}

// TestJoins: each kind, by one and by several keys, with NULLs in them, with rows that fit several and none.
func TestJoins(t *testing.T) {
	l := table("l", types(1, 3, 2),
		row(number(1), text("a"), truth(true)),
		row(number(2), text("b"), truth(false)),
		row(null, text("a"), truth(true)),
		row(number(1), null, truth(true)),
		row(number(3), text(""), null),
		row(number(1), text("a"), truth(false)))
	r := table("r", types(3, 1, 2, 1),
		row(text("a"), number(1), truth(true), number(10)),
		row(text("a"), number(1), null, number(11)),
		row(null, number(1), truth(true), number(12)),
		row(text("b"), number(9), truth(false), number(13)),
		row(text(""), number(3), truth(false), number(14)),
		row(text("a"), null, truth(true), number(15)),
		row(text("a"), number(1), truth(true), number(16)))
	none := table("none", types(3, 1, 2, 1))
	s := stored(t, l, r, none)
	for _, c := range []struct {
		name string
		keys []api.Key
		fits [][]int
	}{
		{"by a number", []api.Key{pair(0, 1)}, [][]int{{0, 1, 2, 6}, nil, nil, {0, 1, 2, 6}, {4}, {0, 1, 2, 6}}},
		{"by a text", []api.Key{pair(1, 0)}, [][]int{{0, 1, 5, 6}, {3}, {0, 1, 5, 6}, nil, {4}, {0, 1, 5, 6}}},
		{"by a truth value", []api.Key{pair(2, 2)}, [][]int{{0, 2, 5, 6}, {3, 4}, {0, 2, 5, 6}, {0, 2, 5, 6}, nil, {3, 4}}},
		{"by a number that is nowhere", []api.Key{pair(0, 3)}, make([][]int, 6)},
		{"by two", []api.Key{pair(0, 1), pair(1, 0)}, [][]int{{0, 1, 6}, nil, nil, nil, {4}, {0, 1, 6}}},
		{"by three", []api.Key{pair(1, 0), pair(2, 2), pair(0, 1)}, [][]int{{0, 6}, nil, nil, nil, nil, nil}},
		{"by one pair four times", []api.Key{pair(1, 0), pair(1, 0), pair(1, 0), pair(1, 0)}, [][]int{{0, 1, 5, 6}, {3}, {0, 1, 5, 6}, nil, {4}, {0, 1, 5, 6}}},
		{"by one column beside two", []api.Key{pair(0, 1), pair(0, 3)}, make([][]int, 6)},
		{"by four", []api.Key{pair(0, 1), pair(1, 0), pair(2, 2), pair(0, 1)}, [][]int{{0, 6}, nil, nil, nil, nil, nil}},
	} {
		joins(t, s, c.name, l, r, c.keys, c.fits)
		joins(t, s, c.name+", nothing on the right", l, none, c.keys, make([][]int, 6))
		joins(t, s, c.name+", nothing on the left", table("none", types(3, 1, 2, 1)), l, turned(c.keys), nil)
	}
}

// turned are the keys from the other side.
func turned(keys []api.Key) []api.Key {
	var l []api.Key
	for _, k := range keys {
		l = append(l, pair(k.Other, k.Col))
	}
	return l
}

// TestJoinsOfKeysThatLookAlike: texts that are the same one behind the other, but not one by one; numbers that differ in the highest bit alone.
func TestJoinsOfKeysThatLookAlike(t *testing.T) {
	l := table("l", types(3, 3, 1), row(text("ab"), text("c"), number(0)), row(text("a"), text("bc"), number(leastNumber)), row(text(""), text("abc"), number(1)), row(text("abc"), text(""), number(mostNumber)))
	r := table("r", types(3, 3, 1), l.Rows[3], l.Rows[2], l.Rows[1], l.Rows[0], row(text("\x00"), text(""), number(-1)), row(text(""), text("\x00"), number(1<<32)))
	s := stored(t, l, r)
	joins(t, s, "two texts", l, r, []api.Key{pair(0, 0), pair(1, 1)}, [][]int{{3}, {2}, {1}, {0}})
	joins(t, s, "two texts, crossed", l, r, []api.Key{pair(0, 1), pair(1, 0)}, [][]int{nil, nil, {0}, {1}})
	joins(t, s, "numbers", l, r, []api.Key{pair(2, 2)}, [][]int{{3}, {2}, {1}, {0}})
	joins(t, s, "the other way round", r, l, []api.Key{pair(0, 0), pair(1, 1)}, [][]int{{3}, {2}, {1}, {0}, nil, nil})
}

// TestJoinsOfManyRows: filters of a few bits for many keys, and of many bits for a few, with many seeds.
func TestJoinsOfManyRows(t *testing.T) {
	l, r := repeated("l", 200, 190), repeated("r", 150, 40)
	s := stored(t, l, r)
	var fits [][]int
	for i := range l.Rows {
		var numbers []int
		for k := range r.Rows {
			if i%190 == k%40 {
				numbers = append(numbers, k)
			}
		}
		fits = append(fits, numbers)
	}
	joins(t, s, "many rows", l, r, []api.Key{pair(0, 0)}, fits)
	p := plan(scan("l"), scan("r"), join(0, 1, api.Semi, pair(1, 1), pair(0, 0)))
	want, fault := meant(p, []api.Table{l, r})
	for seed := range 50 {
		for _, bloom := range []int{0, 1, 2, 63, 64, 65, 127, 128, 4095, 4096} {
			answersBy(t, s, "many rows", p, api.Options{Batch: 16, Budget: 2, Bloom: bloom, Seed: seed<<58 - seed}, want, fault)
		}
	}
}

// TestManyRows: a Join and a Union of just as many rows as may be, and of one more.
func TestManyRows(t *testing.T) {
	l, r, odd := repeated("l", 50, 1), repeated("r", 40, 1), repeated("odd", 3, 1)
	other := table("other", types(1, 1), row(number(7), number(0)))
	s := stored(t, l, r, odd, other, repeated("big", 200, 1), repeated("ten", 10, 1))
	full := plan(scan("l"), scan("r"), join(0, 1, api.Inner, pair(0, 0)))
	for _, o := range someOptions {
		if got, f := s.Run(full, o); len(got) != 2000 || f != placeless(api.OK) {
			t.Errorf("P10: a Join of 2000 rows, by %+v: %d, %+v", o, len(got), f)
		}
	}
	add := func(nodes ...api.Node) api.Plan { return plan(append(full.Nodes[:3:3], nodes...)...) }
	project2 := project(2, expr(col(0)), expr(col(1)))
	faults(t, s, "a Union of 2001", add(project2, scan("other"), union(3, 4)), inNode(api.ErrMany, 5))
	faults(t, s, "a Union of 2003, the other way round", add(project2, scan("odd"), union(4, 3)), inNode(api.ErrMany, 5))
	faults(t, s, "a Union that a Limit leaves out", add(project2, scan("other"), union(3, 4), limit(5, 0)), inNode(api.ErrMany, 5))
	for _, o := range someOptions {
		p := add(project2, scan("other"), limit(4, 0), union(3, 5))
		if got, f := s.Run(p, o); len(got) != 2000 || f != placeless(api.OK) {
			t.Errorf("P10: a Union of 2000 rows, by %+v: %d, %+v", o, len(got), f)
		}
	}
	// 50 rows of l with 40 each, and one of other that none fits: 2001 by Left, 2000 by Inner.
	more := func(kind int) api.Plan {
		return plan(scan("l"), scan("other"), union(0, 1), scan("r"), join(2, 3, kind, pair(0, 0)))
	}
	faults(t, s, "a Left Join of 2001", more(api.Left), inNode(api.ErrMany, 4))
	for kind, want := range map[int]int{api.Inner: 2000, api.Semi: 50, api.Anti: 1} {
		for _, o := range someOptions {
			if got, f := s.Run(more(kind), o); len(got) != want || f != placeless(api.OK) {
				t.Errorf("P10: a Join of the kind %d, by %+v: %d rows, %+v, want %d", kind, o, len(got), f, want)
			}
		}
	}
	faults(t, s, "an Inner Join of 40,000", plan(scan("big"), scan("big"), join(0, 1, api.Inner, pair(0, 0))), inNode(api.ErrMany, 2))
	// Twice 2000 rows, all of one key: by Semi and Anti as many as there are on the left.
	wide := plan(scan("big"), scan("ten"), join(0, 1, api.Inner, pair(0, 0)), scan("big"), scan("ten"), join(3, 4, api.Inner, pair(0, 0)), join(2, 5, api.Semi, pair(0, 2)))
	for kind, want := range map[int]int{api.Semi: 2000, api.Anti: 0} {
		wide.Nodes[6].K = kind
		for _, o := range someOptions {
			if got, f := s.Run(wide, o); len(got) != want || f != placeless(api.OK) {
				t.Errorf("P10: a Join of 2000 rows and 2000, kind %d, by %+v: %d rows, %+v", kind, o, len(got), f)
			}
		}
	}
	wide.Nodes[6].K = api.Left
	faults(t, s, "a Left Join of 4,000,000", wide, inNode(api.ErrMany, 6))
}
