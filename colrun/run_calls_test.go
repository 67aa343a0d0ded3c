package colrun_test

import (
	"math"
	"reflect"
	"slices"
	"testing"

	"colrun/api"
)

// TestRunAlwaysEnds hands strange plans and options to Run.
func TestRunAlwaysEnds(t *testing.T) {
	s := forPlans(t)
	pages := s.Used()
	d := &dice{state: 81}
	plans := []api.Plan{{}, {Nodes: []api.Node{}}, {Nodes: make([]api.Node, 12)}, {Nodes: make([]api.Node, 100000)}}
	for range 1500 {
		var p api.Plan
		for range d.below(15) {
			p.Nodes = append(p.Nodes, d.junkNode())
		}
		plans = append(plans, p, d.wholePlan())
	}
	numbers := []int{math.MinInt, -1, 0, 1, 2, 3, 1000, 1001, 4096, 4097, math.MaxInt}
	pick := func() int { return numbers[d.below(len(numbers))] }
	ends(t, "Run", func() {
		for _, p := range plans {
			for _, o := range []api.Options{{Batch: pick(), Budget: pick(), Bloom: pick(), Seed: pick()}, d.thrownOptions(), {}} {
				got, f := s.Run(p, o)
				schema, g := s.Check(p)
				switch {
				case f.Code == api.OK && (f != placeless(api.OK) || g != f):
					t.Fatalf("P10: Run(%+v, %+v): %+v, Check: %+v", p, o, f, g)
				case f.Code != api.OK && got != nil:
					t.Fatalf("P1: Run(%+v, %+v): %+v and rows", p, o, f)
				case g.Code != api.OK && f != g:
					t.Fatalf("P10: Run(%+v, %+v): %+v, Check: %+v", p, o, f, g)
				}
				areOf(t, got, schema)
			}
		}
	})
	used(t, s, pages)
	for _, x := range planTables() {
		reads(t, s, x.Name, x.Rows)
	}
}

// TestRunLeavesWhatItIsHanded looks at the plan before and after, and writes over it behind the call.
func TestRunLeavesWhatItIsHanded(t *testing.T) {
	d := &dice{state: 91}
	for range 100 {
		tables := d.thrownTables(20)
		s := d.thrownStore(t, roomy, tables)
		p := d.wholePlan()
		before := copyPlan(p)
		got, f := s.Run(p, d.thrownOptions())
		if !reflect.DeepEqual(p, before) {
			t.Fatalf("P2: Run was handed %+v and left %+v", before, p)
		}
		kept := copyRows(got)
		wipe(p)
		if !sameRows(got, kept) {
			t.Fatalf("P2: the rows of %+v changed with the plan", before)
		}
		if again, g := s.Run(before, d.thrownOptions()); g != f || !sameRows(again, kept) {
			t.Fatalf("P2: %+v, behind a plan that was written over: %v, %+v, want %v, %+v", before, again, g, kept, f)
		}
	}
}

// wipe writes over a plan.
func wipe(p api.Plan) {
	for i := range p.Nodes {
		for _, parts := range p.Nodes[i].Exprs {
			for k := range parts {
				parts[k] = api.Part{Op: 99, L: 99, R: 99, Col: 99, V: text("mine")}
			}
		}
		for k := range p.Nodes[i].Keys {
			p.Nodes[i].Keys[k] = api.Key{Col: 99, Other: 99, Fn: 99}
		}
		p.Nodes[i] = api.Node{Op: 99, Table: "mine"}
	}
}

// TestRowsOfRunAreTheCallers writes into rows that came out and appends to them: no other row changes, none of another list, none that comes later.
func TestRowsOfRunAreTheCallers(t *testing.T) {
	s := stored(t, factsTable(), documentTable(), noFacts())
	tables := []api.Table{factsTable(), documentTable(), noFacts()}
	plans := []api.Plan{
		plan(scan("facts")),
		plan(scan("facts"), filter(0, yes)),
		plan(scan("facts"), project(0, expr(col(2)), expr(col(2)), expr(constant(api.Text, text("x"))))),
		plan(scan("t"), scan("t"), join(0, 1, api.Inner, pair(1, 1))),
		plan(scan("facts"), scan("none"), join(0, 1, api.Left, pair(0, 0))),
		plan(scan("facts"), scan("t"), join(0, 1, api.Semi, pair(0, 0))),
		plan(scan("facts"), group(0, told(2, 0), told(2, 4), told(0, 1))),
		plan(scan("facts"), sorted(0, key(0))),
		plan(scan("facts"), limit(0, 3)),
		plan(scan("t"), scan("t"), union(0, 1)),
	}
	for _, p := range plans {
		want, _ := meant(p, tables)
		want = copyRows(want)
		for _, o := range someOptions {
			first, _ := s.Run(p, o)
			second, _ := s.Run(p, o)
			for i := range first {
				for c := range first[i] {
					first[i][c] = text("mine")
				}
				for range 20 {
					first[i] = append(first[i], text("mine too"))
				}
				if !sameRows(first[i+1:], want[i+1:]) {
					t.Fatalf("P2: %+v: rows behind the row %d changed with it", p, i)
				}
			}
			first = append(first[:0], make([]api.Row, cap(first))...)
			if !sameRows(second, want) {
				t.Fatalf("P2: %+v: another list changed: %v", p, second)
			}
			answersBy(t, s, "later", p, o, want, placeless(api.OK))
		}
	}
	reads(t, s, "facts", factsTable().Rows)
	reads(t, s, "t", documentTable().Rows)
}

// TestRunsOfOtherStores: what runs in one changes nothing in another, not even the count of writes.
func TestRunsOfOtherStores(t *testing.T) {
	x := mixedTable(40)
	p := plan(scan("mixed"), sorted(0, key(0)))
	pages := loadedPlainly(t, roomy, x).Used()
	one := loadedPlainly(t, api.Disk{Quota: 1 << 20, Fail: pages + 1}, x)
	other := loadedPlainly(t, roomy, x)
	o := api.Options{Batch: 4, Budget: 3}
	want := meantSort(p.Nodes[1].Keys, x.Rows)
	for range 3 {
		answersBy(t, other, "the other store", p, o, want, placeless(api.OK))
	}
	answersBy(t, one, "the one store", p, o, nil, inNode(api.ErrWrite, 1))
	answersBy(t, one, "the one store, again", p, o, want, placeless(api.OK))
	answersBy(t, other, "the other store", p, o, want, placeless(api.OK))
}

// TestRunBesideOtherCalls: between runs tables are loaded, dropped, scanned, and plans checked.
func TestRunBesideOtherCalls(t *testing.T) {
	d := &dice{state: 101}
	tables := d.thrownTables(40)
	s := d.thrownStore(t, roomy, tables)
	for range 60 {
		p := d.wholePlan()
		want, fault := meant(p, tables)
		answersBy(t, s, "ahead of other calls", p, d.thrownOptions(), want, fault)
		i := d.below(len(tables))
		drop(t, s, tables[i].Name)
		s.Run(d.wholePlan(), d.thrownOptions())
		ways, size := d.thrownWays(tables[i])
		load(t, s, tables[i], ways, size, placeless(api.OK))
		k := d.below(len(tables))
		reads(t, s, tables[k].Name, tables[k].Rows)
		s.Check(d.spoiltPlan(p))
		s.Run(d.spoiltPlan(p), d.thrownOptions())
		answersBy(t, s, "behind other calls", p, d.thrownOptions(), want, fault)
	}
	var left []string
	for _, x := range tables {
		left = append(left, x.Name)
	}
	got := s.Tables()
	slices.Sort(left)
	slices.Sort(got)
	if !slices.Equal(left, got) {
		t.Errorf("P6: Tables() = %q, want %q", got, left)
	}
}
