package colrun_test

import (
	"math"
	"slices"
	"strconv"
	"strings"
	"testing"

	"colrun/api"
)

// TestNamesOfNodes: L and R name earlier nodes; none, itself, a later one, a number below 0 will not do.
func TestNamesOfNodes(t *testing.T) {
	s := forPlans(t)
	for op := api.Filter; op <= api.Union; op++ {
		two := op == api.Join || op == api.Union
		n := api.Node{Op: op, L: 0, R: 1, Exprs: [][]api.Part{expr(yes)}, Keys: []api.Key{{}}}
		for _, wrong := range []int{math.MinInt, -1 << 32, -12, -2, -1, 2, 3, 4, 11, 12, 1 << 32, math.MaxInt} {
			name := "Op " + strconv.Itoa(op) + " of " + strconv.Itoa(wrong)
			m := n
			m.L = wrong
			behind := []api.Node{limit(2, 1), limit(3, 1)}
			refusesPlan(t, s, name, plan(scan("i"), scan("i"), m), 2)
			refusesPlan(t, s, name+", not last", plan(append([]api.Node{scan("i"), scan("i"), m}, behind...)...), 2)
			if two {
				m.L, m.R = 0, wrong
				refusesPlan(t, s, name+" as R", plan(scan("i"), scan("i"), m), 2)
				refusesPlan(t, s, name+" as R, not last", plan(append([]api.Node{scan("i"), scan("i"), m}, behind...)...), 2)
			}
		}
		n.R = 0
		refusesPlan(t, s, "Op "+strconv.Itoa(op)+" of itself, alone", plan(n), 0)
	}
}

// TestNodesNamedTwice: by one node as L and as R, or by two nodes, in each place.
func TestNodesNamedTwice(t *testing.T) {
	s := forPlans(t)
	for _, c := range []struct {
		name string
		plan api.Plan
		node int
	}{
		{"by one Union", plan(scan("i"), union(0, 0)), 1},
		{"by one Join", plan(scan("i"), join(0, 0, api.Inner, key(0))), 1},
		{"by one Semi", plan(scan("i"), join(0, 0, api.Semi, key(0))), 1},
		{"by one Union, with another node", plan(scan("i"), scan("i"), union(1, 1)), 2},
		{"as L and as L", plan(scan("i"), limit(0, 1), limit(0, 1)), 2},
		{"as L and as L, and named both", plan(scan("i"), limit(0, 1), limit(0, 1), union(1, 2)), 2},
		{"as L and as R", plan(scan("i"), limit(0, 1), union(1, 0)), 2},
		{"as R and as L", plan(scan("i"), scan("i"), union(0, 1), limit(1, 1)), 3},
		{"as R and as L, then R", plan(scan("i"), scan("i"), union(0, 1), union(1, 2)), 3},
		{"as R and as R", plan(scan("i"), scan("i"), scan("i"), union(0, 1), union(3, 1)), 4},
		{"as R of a Semi, and as L", plan(scan("i"), scan("i"), join(0, 1, api.Semi, key(0)), join(2, 1, api.Semi, key(0))), 3},
		{"far away", plan(scan("i"), limit(0, 1), limit(1, 1), limit(2, 1), limit(3, 1), limit(4, 1), filter(0, yes)), 6},
		{"by each kind: Filter", plan(scan("i"), limit(0, 1), filter(0, yes)), 2},
		{"by each kind: Project", plan(scan("i"), limit(0, 1), project(0, expr(yes))), 2},
		{"by each kind: Group", plan(scan("i"), limit(0, 1), group(0, key(0))), 2},
		{"by each kind: Sort", plan(scan("i"), limit(0, 1), sorted(0, key(0))), 2},
	} {
		refusesPlan(t, s, c.name, c.plan, c.node)
	}
}

// TestNodesThatNoneNames: of several the first; the last one need not be named.
func TestNodesThatNoneNames(t *testing.T) {
	s := forPlans(t)
	for _, c := range []struct {
		name string
		plan api.Plan
		node int
	}{
		{"the first", plan(scan("t"), scan("t")), 0},
		{"a middle one", plan(scan("t"), scan("t"), limit(0, 1)), 1},
		{"the last but one", plan(scan("t"), limit(0, 1), scan("t")), 1},
		{"two of them", plan(scan("t"), scan("t"), scan("t"), limit(1, 1)), 0},
		{"two, the first is named", plan(scan("t"), scan("t"), limit(0, 1), scan("t")), 1},
		{"two, the second is named", plan(scan("t"), scan("t"), limit(1, 1), scan("t")), 0},
		{"all of 12", plan(slices.Repeat([]api.Node{scan("t")}, 12)...), 0},
		{"the last but one of 12", plan(append(limits(11).Nodes, scan("t"))...), 10},
	} {
		refusesPlan(t, s, c.name, c.plan, c.node)
	}
}

// TestSeveralFaults: nodes that are wrong by themselves go before nodes that none names; of either the first is told.
func TestSeveralFaults(t *testing.T) {
	s := forPlans(t)
	wrong := map[string]api.Node{
		"a table that is not there": scan("?"),
		"a number of no kind":       {Op: 8},
		"a wrong Limit":             limit(0, -1),
		"a Filter by a number":      filter(0, col(0)),
		"a name that is none":       limit(9, 1),
		"a Total of texts":          group(0, told(1, api.Total)),
	}
	for name, w := range wrong {
		refusesPlan(t, s, name+", none names an earlier one", plan(scan("t"), scan("t"), w), 2)
		refusesPlan(t, s, name+", none names a later one", plan(scan("t"), w, scan("t"), scan("t")), 1)
		refusesPlan(t, s, name+", that none names", plan(scan("t"), w, scan("t"), limit(2, 1)), 1)
		refusesPlan(t, s, name+", twice", plan(scan("t"), scan("t"), w, w), 2)
		refusesPlan(t, s, name+", behind a wrong table", plan(scan("none"), w), 0)
		refusesPlan(t, s, name+", ahead of names that come twice", plan(scan("t"), w, limit(0, 1), limit(0, 1)), 1)
		for other, v := range wrong {
			refusesPlan(t, s, name+", "+other, plan(scan("t"), w, v), 1)
		}
	}
	refusesPlan(t, s, "names that come twice, and one that does not come", plan(scan("t"), scan("t"), limit(0, 1), limit(0, 1)), 3)
	refusesPlan(t, s, "both by one Union", plan(scan("t"), scan("t"), union(0, 0)), 2)
	refusesPlan(t, s, "12 wrong ones", plan(slices.Repeat([]api.Node{{Op: -1}}, 12)...), 0)
	refusesPlan(t, s, "the 12th wrong", plan(append(limits(11).Nodes, limit(10, 1001))...), 11)
}

func TestTablesThatAreNotThere(t *testing.T) {
	s := forPlans(t)
	for _, name := range []string{"", "T", "t ", " t", "tt", "al", "alll", "t\x00", "\x00", strings.Repeat("t", 20), strings.Repeat("t", 21), strings.Repeat("t", 100000)} {
		refusesPlan(t, s, "table "+strconv.Quote(name[:min(len(name), 30)]), plan(scan(name)), 0)
		refusesPlan(t, s, "table behind", plan(scan("t"), scan(name), union(0, 1)), 1)
	}
}

// TestKeysOfJoins: columns of both sides, of one type, in each key.
func TestKeysOfJoins(t *testing.T) {
	s := forPlans(t)
	for k := range 4 {
		for c := range 6 {
			for other := range 6 {
				p := plan(scan("all"), scan("all"), join(0, 1, k, pair(0, 0), pair(c, other)))
				want := types(1, 2, 3, 1, 2, 3)
				if k < 2 {
					want = append(want, want...)
				}
				name := "K " + strconv.Itoa(k) + ", " + strconv.Itoa(c) + " beside " + strconv.Itoa(other)
				if c%3 == other%3 {
					checks(t, s, name, p, want...)
				} else {
					refusesPlan(t, s, name, p, 2)
				}
			}
		}
		for _, c := range beside(5) {
			name := "K " + strconv.Itoa(k) + ", column " + strconv.Itoa(c)
			refusesPlan(t, s, name, plan(scan("all"), scan("all"), join(0, 1, k, pair(c, 0))), 2)
			refusesPlan(t, s, name+" of R", plan(scan("all"), scan("all"), join(0, 1, k, pair(0, c))), 2)
			refusesPlan(t, s, name+" of both", plan(scan("all"), scan("all"), join(0, 1, k, pair(c, c))), 2)
			refusesPlan(t, s, name+" in the fourth", plan(scan("all"), scan("all"), join(0, 1, k, pair(0, 0), pair(1, 1), pair(2, 2), pair(c, 0))), 2)
		}
		refusesPlan(t, s, "a column of R, counted from L on", plan(scan("t"), scan("i"), join(0, 1, k, pair(0, 2))), 2)
		refusesPlan(t, s, "the sides turned round", plan(scan("i"), scan("five"), join(0, 1, k, pair(2, 0))), 2)
		refusesPlan(t, s, "the sides turned round", plan(scan("i"), scan("five"), join(1, 0, k, pair(0, 2))), 2)
	}
}

func TestKeysOfSorts(t *testing.T) {
	s := forPlans(t)
	for c := range 6 {
		checks(t, s, "column "+strconv.Itoa(c), plan(scan("all"), sorted(0, key(c), api.Key{Col: 5 - c, Down: true})), 1, 2, 3, 1, 2, 3)
	}
	for _, c := range beside(5) {
		refusesPlan(t, s, "column "+strconv.Itoa(c), plan(scan("all"), sorted(0, key(c))), 1)
		refusesPlan(t, s, "column "+strconv.Itoa(c)+" behind", plan(scan("all"), sorted(0, key(0), key(1), key(2), api.Key{Col: c, Down: true})), 1)
	}
}

// TestSidesOfUnions: both of one schema: as many columns, the same types, in the same order.
func TestSidesOfUnions(t *testing.T) {
	s := forPlans(t)
	schemas := [][]int{{1}, {2}, {3}, {1, 1}, {1, 2}, {2, 1}, {1, 1, 1}, {1, 2, 3}, {1, 2, 1}, {1, 2, 3, 1, 2, 3}, {1, 2, 3, 1, 2, 2}}
	for i, left := range schemas {
		for k, right := range schemas {
			p := plan(scan("t"), project(0, nulls(left)...), scan("i"), project(2, nulls(right)...), union(1, 3))
			if i == k {
				checks(t, s, "a union of one schema", p, left...)
			} else {
				refusesPlan(t, s, "a union of two schemas", p, 4)
			}
		}
	}
	refusesPlan(t, s, "a union of two tables", plan(scan("t"), scan("all"), union(0, 1)), 2)
}

// nulls are expressions of these types.
func nulls(schema []int) [][]api.Part {
	var exprs [][]api.Part
	for _, typ := range schema {
		exprs = append(exprs, expr(constant(typ, null)))
	}
	return exprs
}

// TestWrongExpressionsOfAProject: in each place among six.
func TestWrongExpressionsOfAProject(t *testing.T) {
	s := forPlans(t)
	for at := range 6 {
		for _, wrong := range [][]api.Part{nil, expr(col(6)), expr(col(2), part(api.Not, 0, 0)), expr(yes, part(api.Add, 0, 0)), expr(constant(1, text("a"))), nots(13)} {
			exprs := nulls(types(1, 2, 3, 3, 2, 1))
			checks(t, s, "six expressions", plan(scan("all"), project(0, exprs...)), 1, 2, 3, 3, 2, 1)
			exprs[at] = wrong
			refusesPlan(t, s, "a wrong expression at "+strconv.Itoa(at), plan(scan("all"), project(0, exprs...)), 1)
		}
	}
}
