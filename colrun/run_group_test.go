package colrun_test

import (
	"testing"

	"colrun/api"
)

// TestGroups: with and without a key of Fn 0, NULL as a group of its own, groups in the order in which they first come, what is told in the order of the keys.
func TestGroups(t *testing.T) {
	s := stored(t, factsTable(), noFacts())
	n := number
	for _, c := range []struct {
		name string
		keys []api.Key
		want []api.Row
	}{
		{"by a number", []api.Key{told(0, 0)}, rows(row(n(3)), row(null), row(n(1)), row(n(-2)))},
		{"by a truth value", []api.Key{told(1, 0), told(0, 1)}, rows(row(truth(true), n(3)), row(truth(false), n(2)), row(null, n(2)))},
		{"by a text", []api.Key{told(0, 1), told(2, 0)}, rows(row(n(3), text("b")), row(n(1), text("")), row(n(1), text("ab")), row(n(1), null), row(n(1), text("a")))},
		{"by two, and told between", []api.Key{told(1, 0), told(3, 2), told(0, 0), told(3, 5)}, rows(row(truth(true), n(1), n(3), n(mostNumber)), row(truth(false), n(1), null, n(1)), row(null, n(1), n(1), n(leastNumber)), row(truth(false), n(0), n(3), null), row(truth(true), n(1), n(-2), n(-1)), row(null, n(1), null, n(0)), row(truth(true), n(1), n(1), n(5)))},
		{"by one column twice", []api.Key{told(1, 0), told(1, 0), told(1, 2), told(1, 1)}, rows(row(truth(true), truth(true), n(3), n(3)), row(truth(false), truth(false), n(2), n(2)), row(null, null, n(0), n(2)))},
		{"all, counted", []api.Key{told(0, 1), told(0, 2), told(1, 2), told(2, 2)}, rows(row(n(7), n(5), n(5), n(6)))},
		{"all, of numbers", []api.Key{told(0, 3), told(0, 4), told(0, 5), told(3, 4)}, rows(row(n(6), n(-2), n(3), n(leastNumber)))},
		{"all, of truth values and texts", []api.Key{told(1, 4), told(1, 5), told(2, 4), told(2, 5)}, rows(row(truth(false), truth(true), text(""), text("b")))},
		{"a sum that leaves 64 bits and comes back", []api.Key{told(3, 3)}, rows(row(n(4)))},
		{"by a number, of texts", []api.Key{told(0, 0), told(2, 4), told(2, 5), told(2, 2)}, rows(row(n(3), text("b"), text("b"), n(1)), row(null, text(""), text("a"), n(2)), row(n(1), text("ab"), text("b"), n(2)), row(n(-2), text("b"), text("b"), n(1)))},
	} {
		runs(t, s, "Group "+c.name, plan(scan("facts"), group(0, c.keys...)), c.want...)
	}
	runs(t, s, "without rows, all", plan(scan("none"), group(0, told(0, 1), told(2, 2), told(0, 3), told(1, 4))), row(n(0), n(0), null, null))
	runs(t, s, "without rows, the greatest", plan(scan("none"), group(0, told(0, 5), told(1, 5), told(2, 5), told(2, 4))), row(null, null, null, null))
	runs(t, s, "without rows, by a number", plan(scan("none"), group(0, told(0, 0), told(0, 1))))
	runs(t, s, "without rows, by a number behind", plan(scan("none"), group(0, told(0, 1), told(0, 0))))
}

// TestGroupsOfOnlyNulls: of these there is no sum, no least and no greatest, but they are counted.
func TestGroupsOfOnlyNulls(t *testing.T) {
	s := stored(t, table("x", types(1, 2, 3), row(null, null, null), row(null, null, null)))
	runs(t, s, "numbers", plan(scan("x"), group(0, told(0, 3), told(0, 4), told(0, 5), told(0, 2))), row(null, null, null, number(0)))
	runs(t, s, "others", plan(scan("x"), group(0, told(1, 4), told(2, 5), told(2, 2), told(2, 1))), row(null, null, number(0), number(2)))
	runs(t, s, "a group", plan(scan("x"), group(0, told(0, 0), told(1, 0), told(2, 0), told(0, 1))), row(null, null, null, number(2)))
}

// TestManyGroups: as many as rows, told in the order of the rows.
func TestManyGroups(t *testing.T) {
	x := table("x", types(1, 3))
	var want []api.Row
	for i := range 200 {
		x.Rows = append(x.Rows, row(number(int64(i*77%200)), longText(i%41)))
		want = append(want, row(number(1), x.Rows[i][0], x.Rows[i][1]))
	}
	s := stored(t, x)
	runs(t, s, "200 groups", plan(scan("x"), group(0, told(0, 1), told(0, 0), told(1, 0))), want...)
	runs(t, s, "groups of groups", plan(scan("x"), group(0, told(0, 1), told(0, 0)), group(1, told(0, 0), told(1, 3))), row(number(1), number(199*100)))
}

// TestTotals: sums at the edges of 64 bits, whatever is reached on the way.
func TestTotals(t *testing.T) {
	const least, most = leastNumber, mostNumber
	for _, c := range []struct {
		numbers []int64
		want    int64
		fits    bool
	}{
		{[]int64{0}, 0, true},
		{[]int64{-1}, -1, true},
		{[]int64{most}, most, true},
		{[]int64{least}, least, true},
		{[]int64{most, 1}, 0, false},
		{[]int64{most, 1, -1}, most, true},
		{[]int64{least, -1}, 0, false},
		{[]int64{least, -1, 1}, least, true},
		{[]int64{least, most}, -1, true},
		{[]int64{most, most, most, least, least, least}, -3, true},
		{[]int64{least, least, most, most, 2}, 0, true},
		{[]int64{least, least}, 0, false},
		{[]int64{most, most}, 0, false},
		{[]int64{most, most, 2}, 0, false},
		{[]int64{most, most, most}, 0, false},
		{[]int64{1 << 62, 1 << 62}, 0, false},
		{[]int64{-1 << 62, -1 << 62}, least, true},
		{[]int64{-1 << 62, -1 << 62, -1}, 0, false},
	} {
		x := table("x", types(1), row(null))
		for _, n := range c.numbers {
			x.Rows = append(x.Rows, row(number(n)), row(null))
		}
		s := stored(t, x)
		p := plan(scan("x"), group(0, told(0, api.Total)))
		if c.fits {
			runs(t, s, "a Total", p, row(number(c.want)))
		} else {
			faults(t, s, "a Total", p, atGroup(1, 0, 0))
		}
	}
}

// TestTotalsOfManyRows: 2000 times the greatest number, and the least one.
func TestTotalsOfManyRows(t *testing.T) {
	l, r := table("l", types(1, 1)), table("r", types(1, 1))
	for range 20 {
		l.Rows = append(l.Rows, row(number(1), number(mostNumber)))
	}
	for range 100 {
		r.Rows = append(r.Rows, row(number(1), number(leastNumber)))
	}
	s := stored(t, l, r)
	both := plan(scan("l"), scan("r"), join(0, 1, api.Inner, pair(0, 0)))
	for c, name := range map[int]string{1: "the greatest", 3: "the least"} {
		faults(t, s, name, plan(append(both.Nodes[:3:3], group(2, told(0, api.Total), told(0, api.CountAll), told(c, api.Total)))...), atGroup(3, 0, 2))
	}
	runs(t, s, "ones", plan(append(both.Nodes[:3:3], group(2, told(0, api.Total), told(1, api.Least), told(3, api.Most), told(0, api.Count)))...), row(number(2000), number(mostNumber), number(leastNumber), number(2000)))
}

// TestTotalsThatDoNotFit: the first group, in it the first column.
func TestTotalsThatDoNotFit(t *testing.T) {
	big := number(mostNumber)
	s := stored(t, table("x", types(3, 1, 1),
		row(text("a"), big, number(-1)),
		row(text("b"), number(1), big),
		row(text("c"), big, big),
		row(text("a"), number(-1), number(leastNumber)),
		row(text("b"), number(2), null),
		row(text("c"), number(1), number(1)),
		row(text("b"), null, number(1))))
	faults(t, s, "the group of a comes first", plan(scan("x"), group(0, told(0, 0), told(1, 3), told(2, 3))), atGroup(1, 0, 2))
	faults(t, s, "the other column alone", plan(scan("x"), group(0, told(1, 3), told(0, 0))), atGroup(1, 2, 0))
	faults(t, s, "without a", plan(scan("x"), filter(0, constant(3, text("a")), col(0), part(api.Less, 0, 1)), group(1, told(0, 0), told(0, 2), told(1, 3), told(2, 3))), atGroup(2, 0, 3))
	faults(t, s, "c alone", plan(scan("x"), filter(0, constant(3, text("b")), col(0), part(api.Less, 0, 1)), group(1, told(2, 3), told(0, 0), told(1, 3), told(2, 3))), atGroup(2, 0, 0))
	faults(t, s, "all as one, of which one sum just fits", plan(scan("x"), group(0, told(0, 1), told(2, 3), told(1, 3))), atGroup(1, 0, 2))
	faults(t, s, "a Limit leaves it out", plan(scan("x"), group(0, told(1, 3), told(0, 0)), limit(1, 1)), atGroup(1, 2, 0))
	runs(t, s, "Count, Least and Most always fit", plan(scan("x"), group(0, told(1, 2), told(1, 4), told(2, 5), told(0, 1))), row(number(6), number(-1), big, number(7)))
}
