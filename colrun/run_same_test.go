package colrun_test

import (
	"math"
	"testing"

	"colrun/api"
	"colrun/colrun"
)

// TestRunOfThrown holds Run against what the plans mean, over thrown tables, ways of writing, and options; each plan runs several times, and behind those that were ahead.
func TestRunOfThrown(t *testing.T) {
	d := &dice{state: 21}
	seen := map[api.Errno]int{}
	ops := map[int]int{}
	for round := range 150 {
		tables := d.thrownTables([]int{3, 12, 40, 200}[round%4])
		one, other := d.thrownStore(t, roomy, tables), d.thrownStore(t, roomy, tables)
		for range 12 {
			p := d.wholePlan()
			want, fault := meant(p, tables)
			seen[fault.Code]++
			if len(want) > 0 {
				for _, n := range p.Nodes {
					ops[n.Op]++
				}
			}
			answersBy(t, one, "thrown", p, d.thrownOptions(), want, fault)
			answersBy(t, one, "thrown, again", p, d.thrownOptions(), want, fault)
			answersBy(t, other, "thrown, otherwise written", p, d.thrownOptions(), want, fault)
			answersBy(t, other, "thrown, with junk in fields that say nothing", filled(p, d), d.thrownOptions(), want, fault)
			if t.Failed() {
				t.Fatalf("P10, P11: round %d: the plan %+v", round, p)
			}
		}
	}
	for _, code := range []api.Errno{api.OK, api.ErrDivide, api.ErrOverflow, api.ErrMany} {
		if seen[code] < 10 {
			t.Errorf("only %d plans with the code %d were thrown: %v", seen[code], code, seen)
		}
	}
	for op := range 8 {
		if ops[op] < 300 {
			t.Errorf("only %d nodes of Op %d, in plans with rows: %v", ops[op], op, ops)
		}
	}
}

// allOptions are the edges of all options, each with each.
func allOptions() []api.Options {
	var l []api.Options
	for _, batch := range []int{1, 2, 1000} {
		for _, budget := range []int{2, 1000} {
			for _, bloom := range []int{0, 1, 4096} {
				for _, seed := range []int{0, 1, -1, math.MinInt, math.MaxInt} {
					l = append(l, api.Options{Batch: batch, Budget: budget, Bloom: bloom, Seed: seed})
				}
			}
		}
	}
	return l
}

// allWays are stores with the same tables, whose columns are written in each way that they can have, in groups of several sizes.
func allWays(t *testing.T, tables []api.Table) []*colrun.Store {
	t.Helper()
	var l []*colrun.Store
	for how := range 4 {
		for _, size := range []int{1, 2, 16, 64} {
			s := colrun.New(roomy)
			for _, x := range tables {
				var ways []int
				for _, typ := range x.Types {
					if how == api.Packed && typ == api.Text {
						ways = append(ways, api.Runs)
					} else {
						ways = append(ways, how)
					}
				}
				load(t, s, x, ways, size, placeless(api.OK))
			}
			l = append(l, s)
		}
	}
	return l
}

// TestRunHangsOnRowsAndPlanAlone: the same plans over tables that are written in other ways and groups, with other options: the same answers, faults too.
func TestRunHangsOnRowsAndPlanAlone(t *testing.T) {
	x := table("x", types(1, 2, 3, 1))
	for i := range 40 {
		x.Rows = append(x.Rows, row(number(int64(i*7%5)), truth(i%3 == 0), text("abc"[:i%4]), number(int64(i%13))))
		if i%6 == 1 {
			x.Rows[i][i%4] = null
		}
	}
	tables := []api.Table{x, factsTable(), noFacts()}
	two := []api.Node{scan("x"), scan("facts")}
	add := func(nodes ...api.Node) api.Plan { return plan(append(two[:2:2], nodes...)...) }
	plans := []api.Plan{
		plan(scan("x")),
		plan(scan("x"), sorted(0, down(2), key(0)), limit(1, 17)),
		plan(scan("x"), group(0, told(0, 0), told(3, 3), told(2, 5), told(0, 1)), sorted(1, key(2))),
		plan(scan("x"), filter(0, col(1)), project(1, expr(col(0), col(3), part(api.Mul, 0, 1)), expr(col(2)))),
		add(join(0, 1, api.Inner, pair(2, 2), pair(1, 1)), sorted(2, down(3))),
		add(join(0, 1, api.Left, pair(0, 0))),
		add(join(1, 0, api.Semi, pair(2, 2))),
		add(join(0, 1, api.Anti, pair(3, 0), pair(2, 2))),
		add(union(0, 1), sorted(2, key(1), key(2), down(3))),
		plan(scan("x"), project(0, byZero(3, 11)), sorted(1, key(0))),
		plan(scan("x"), sorted(0, key(3)), filter(1, withTest(over(3, 9))...)),
		plan(scan("x"), scan("x"), join(0, 1, api.Inner, pair(1, 1)), scan("x"), join(2, 3, api.Left, pair(1, 1)), limit(4, 1)),
		plan(scan("facts"), group(0, told(0, 0), told(3, 3))),
		plan(scan("facts"), project(0, expr(col(0)), expr(col(3))), filter(1, digit(4), col(1), part(api.Less, 0, 1)), group(2, told(1, 3))),
		plan(scan("none"), sorted(0, key(0)), group(1, told(0, 3), told(0, 1))),
	}
	stores := allWays(t, tables)
	for _, p := range plans {
		want, fault := meant(p, tables)
		for i, o := range allOptions() {
			answersBy(t, stores[i%len(stores)], "the same rows and plan", p, o, want, fault)
		}
		for i, s := range stores {
			answersBy(t, s, "the same rows and plan", p, someOptions[i%len(someOptions)], want, fault)
		}
	}
}
