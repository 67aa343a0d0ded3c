package colrun_test

import (
	"math"
	"reflect"
	"slices"
	"strings"
	"testing"

	"colrun/api"
	"colrun/colrun"
)

// junk is any number: small ones, and those beyond all bounds.
func (d *dice) junk() int {
	edges := []int{math.MinInt, -1 << 32, -2, -1, 12, 13, 255, 1000, 1001, 1 << 32, math.MaxInt}
	if d.below(2) == 0 {
		return edges[d.below(len(edges))]
	}
	return d.below(12)
}

func (d *dice) junkText() string {
	texts := []string{"", "t", "all", "?", "\x00", strings.Repeat("x", 41), strings.Repeat("\xff", 1000)}
	return texts[d.below(len(texts))]
}

func (d *dice) junkPart() api.Part {
	return api.Part{Op: d.junk(), L: d.junk(), R: d.junk(), Col: d.junk(), V: api.Value{Kind: d.junk(), N: int64(d.junk()), S: d.junkText()}}
}

func (d *dice) junkExprs() [][]api.Part {
	var exprs [][]api.Part
	for range d.below(9) {
		var parts []api.Part
		for range d.below(15) {
			parts = append(parts, d.junkPart())
		}
		exprs = append(exprs, parts)
	}
	return exprs
}

func (d *dice) junkKeys() []api.Key {
	var keys []api.Key
	for range d.below(7) {
		keys = append(keys, api.Key{Col: d.junk(), Other: d.junk(), Down: d.below(2) == 0, Fn: d.junk()})
	}
	return keys
}

func (d *dice) junkNode() api.Node {
	return api.Node{Op: d.junk(), L: d.junk(), R: d.junk(), Table: d.junkText(), Exprs: d.junkExprs(), Keys: d.junkKeys(), K: d.junk()}
}

// TestCheckAlwaysEnds hands strange plans to Check: with an error there is no schema, and the fault names a node of the plan, or none.
func TestCheckAlwaysEnds(t *testing.T) {
	s := forPlans(t)
	d := &dice{state: 10}
	plans := []api.Plan{{}, {Nodes: []api.Node{}}, {Nodes: make([]api.Node, 12)}, {Nodes: make([]api.Node, 100000)}}
	long := api.Node{Op: api.Filter, Exprs: make([][]api.Part, 100000), Keys: make([]api.Key, 100000)}
	for op := range 8 {
		long.Op = op
		plans = append(plans, plan(scan("t"), scan("t"), long), plan(long))
	}
	for range 3000 {
		var p api.Plan
		for range d.below(15) {
			p.Nodes = append(p.Nodes, d.junkNode())
		}
		plans = append(plans, p)
	}
	ends(t, "Check", func() {
		for _, p := range plans {
			schema, f := s.Check(p)
			if f == placeless(api.OK) {
				if len(schema) < 1 || len(schema) > 12 {
					t.Fatalf("P9: Check(%+v) = %v", p, schema)
				}
			} else if f != atNode(f.Node) || len(schema) != 0 || f.Node < -1 || f.Node >= len(p.Nodes) {
				t.Fatalf("P1, P9: Check(%+v) = %v, %+v", p, schema, f)
			}
		}
	})
}

// TestCheckWithoutTables: there is no plan then.
func TestCheckWithoutTables(t *testing.T) {
	s := colrun.New(api.Disk{})
	for _, c := range rightPlans() {
		refusesPlan(t, s, c.name, c.plan, 0)
	}
	refusesPlan(t, s, "no nodes", plan(), api.None)
}

// TestCheckGoesByTheTablesThatAreThere: loaded, refused, dropped, loaded anew with other columns.
func TestCheckGoesByTheTablesThatAreThere(t *testing.T) {
	s := colrun.New(roomy)
	scanned, summed := plan(scan("t")), plan(scan("t"), group(0, told(0, api.Total)))
	refusesPlan(t, s, "ahead of the Load", scanned, 0)
	load(t, s, documentTable(), hows(0, 3), 2, placeless(api.ErrArg))
	refusesPlan(t, s, "behind a Load that was refused", scanned, 0)
	load(t, s, documentTable(), hows(0, 0), 2, placeless(api.OK))
	checks(t, s, "loaded", scanned, 1, 3)
	checks(t, s, "loaded", summed, 1)
	load(t, s, table("t", types(2)), hows(0), 1, placeless(api.ErrTable))
	checks(t, s, "a second Load was refused", scanned, 1, 3)
	load(t, s, table("u", types(3)), hows(0), 1, placeless(api.OK))
	checks(t, s, "another was loaded", scanned, 1, 3)
	checks(t, s, "the other", plan(scan("t"), scan("u"), join(0, 1, api.Inner, pair(1, 0))), 1, 3, 3)
	drop(t, s, "t")
	refusesPlan(t, s, "dropped", scanned, 0)
	refusesPlan(t, s, "dropped", plan(scan("u"), scan("t"), join(1, 0, api.Inner, pair(1, 0))), 1)
	checks(t, s, "the other stays", plan(scan("u")), 3)
	load(t, s, table("t", types(3, 2, 2)), hows(0, 0, 0), 1, placeless(api.OK))
	checks(t, s, "loaded anew", scanned, 3, 2, 2)
	refusesPlan(t, s, "loaded anew", summed, 1)
	drop(t, s, "u")
	drop(t, s, "t")
	load(t, s, table("t", types(1)), hows(0), 1, placeless(api.OK))
	checks(t, s, "loaded a third time", summed, 1)
	refusesPlan(t, colrun.New(roomy), "another store", scanned, 0)
}

// TestCheckOfALoadThatFailed: the table is not there then.
func TestCheckOfALoadThatFailed(t *testing.T) {
	for _, c := range []struct {
		disk api.Disk
		want api.Errno
	}{{api.Disk{Quota: 3}, api.ErrQuota}, {api.Disk{Quota: 99, Fail: 4}, api.ErrWrite}} {
		s := colrun.New(c.disk)
		load(t, s, documentTable(), hows(0, 0), 2, placeless(c.want))
		refusesPlan(t, s, "a Load that failed", plan(scan("t")), 0)
	}
}

// TestCheckAsksNothingOfTheDisk: it is full, its next write fails, all its pages are spoilt.
func TestCheckAsksNothingOfTheDisk(t *testing.T) {
	s := colrun.New(api.Disk{Quota: 5, Fail: 5})
	load(t, s, documentTable(), hows(0, 0), 2, placeless(api.OK))
	p := plan(scan("t"), sorted(0, key(1)), scan("t"), join(1, 2, api.Left, key(0)), sorted(3, key(0)))
	asked := func(name string) {
		t.Helper()
		checks(t, s, name, p, 1, 3, 1, 3)
		refusesPlan(t, s, name, plan(scan("t"), sorted(0, key(2))), 1)
	}
	asked("a disk that will fail")
	used(t, s, 4)
	load(t, s, ofPages("u", 1), hows(0), 1, placeless(api.ErrWrite))
	asked("a disk that failed")
	loadPages(t, s, "u", 1)
	used(t, s, 5)
	asked("a full disk")
	for page := range 5 {
		for at := range 64 {
			spoil(t, s, page, at, 1+(page+at)%255)
		}
	}
	asked("a disk that is spoilt")
	checks(t, s, "a table that is spoilt", plan(scan("u")), 1)
	used(t, s, 5)
	names(t, s, "t", "u")
	drop(t, s, "u")
	used(t, s, 4)
}

// TestCheckChangesNothing: neither the tables nor the pages nor the count of writes.
func TestCheckChangesNothing(t *testing.T) {
	s := colrun.New(api.Disk{Quota: 100, Fail: 9})
	load(t, s, documentTable(), hows(0, 1), 2, placeless(api.OK))
	for range 30 {
		s.Check(allNodes())
		s.Check(plan(scan("t"), sorted(0, key(0))))
		s.Check(plan(scan("t"), sorted(0, key(9))))
		s.Check(plan())
	}
	used(t, s, 4)
	names(t, s, "t")
	reads(t, s, "t", documentTable().Rows)
	loadPages(t, s, "u", 4)
	load(t, s, ofPages("v", 1), hows(0), 1, placeless(api.ErrWrite))
	loadPages(t, s, "v", 1)
}

// TestCheckAnswersTheSame whatever was asked ahead: the plans in several orders, right ones behind wrong ones.
func TestCheckAnswersTheSame(t *testing.T) {
	s := forPlans(t)
	list := rightPlans()
	d := &dice{state: 11}
	for range 20 {
		for range list {
			i, k := d.below(len(list)), d.below(len(list))
			list[i], list[k] = list[k], list[i]
		}
		for _, c := range list {
			checks(t, s, c.name, c.plan, c.want...)
			refusesPlan(t, s, c.name+", and one that none names", plan(append([]api.Node{scan("i")}, shifted(c.plan).Nodes[:min(11, len(c.plan.Nodes))]...)...), 0)
			s.Check(plan(d.junkNode(), d.junkNode()))
			s.Scan("t")
		}
	}
}

// shifted is the plan as it reads with one node more ahead of it.
func shifted(p api.Plan) api.Plan {
	p = copyPlan(p)
	for i := range p.Nodes {
		p.Nodes[i].L++
		p.Nodes[i].R++
	}
	return p
}

// TestCheckLeavesWhatItIsHanded looks at the plan, and at what lies behind its lists in the same memory.
func TestCheckLeavesWhatItIsHanded(t *testing.T) {
	s := forPlans(t)
	d := &dice{state: 12}
	for _, c := range rightPlans() {
		for _, p := range []api.Plan{c.plan, filled(c.plan, d), plan(append(slices.Clone(c.plan.Nodes), d.junkNode())...)} {
			memory := withMemoryBehind(p, d)
			before := copyPlan(memory)
			short := copyHeads(memory)
			handed := copyPlan(short)
			s.Check(short)
			if !reflect.DeepEqual(memory, before) || !reflect.DeepEqual(short, handed) {
				t.Errorf("P2: %s: Check was handed %+v and left %+v", c.name, before, memory)
			}
		}
	}
}

// withMemoryBehind is the plan with one thing more in each list.
func withMemoryBehind(p api.Plan, d *dice) api.Plan {
	p = copyPlan(p)
	for i, n := range p.Nodes {
		for k, parts := range n.Exprs {
			n.Exprs[k] = append(parts, d.junkPart())
		}
		p.Nodes[i].Exprs = append(n.Exprs, expr(yes, d.junkPart()))
		p.Nodes[i].Keys = append(n.Keys, api.Key{Col: 77, Fn: 77})
	}
	p.Nodes = append(p.Nodes, d.junkNode())
	return p
}

// copyHeads is the plan without the last thing of each list of keys and of parts, and without the last node; these lists are in the same memory.
func copyHeads(p api.Plan) api.Plan {
	var nodes []api.Node
	for _, n := range p.Nodes[:len(p.Nodes)-1] {
		var exprs [][]api.Part
		for _, parts := range n.Exprs[:len(n.Exprs)-1] {
			exprs = append(exprs, parts[:len(parts)-1])
		}
		n.Exprs, n.Keys = exprs, n.Keys[:len(n.Keys)-1]
		nodes = append(nodes, n)
	}
	return api.Plan{Nodes: nodes}
}

// TestCheckKeepsNothing writes over all that was handed in.
func TestCheckKeepsNothing(t *testing.T) {
	s := forPlans(t)
	p := allNodes()
	schema, _ := s.Check(p)
	for _, n := range p.Nodes {
		for _, parts := range n.Exprs {
			clear(parts)
		}
		clear(n.Keys)
		clear(n.Exprs)
	}
	clear(p.Nodes)
	if !slices.Equal(schema, types(3, 1)) {
		t.Errorf("P2: the schema changed with the plan: %v", schema)
	}
	refusesPlan(t, s, "a plan that was cleared", p, 0)
	checks(t, s, "the same plan in other memory", allNodes(), 3, 1)
}

// TestSchemasAreTheCallers writes into the lists that came out and appends to them.
func TestSchemasAreTheCallers(t *testing.T) {
	s := forPlans(t)
	for _, c := range rightPlans() {
		first, _ := s.Check(c.plan)
		second, _ := s.Check(c.plan)
		for i := range first[:cap(first)] {
			first[:cap(first)][i] = 99
		}
		first = append(first[:0], slices.Repeat(types(98), 20)...)
		if !slices.Equal(second, c.want) {
			t.Errorf("P2: %s: another schema changed: %v", c.name, second)
		}
		checks(t, s, c.name, c.plan, c.want...)
	}
	for _, x := range planTables() {
		reads(t, s, x.Name, x.Rows)
		checks(t, s, x.Name, plan(scan(x.Name)), x.Types...)
	}
}

// TestSchemasStayWhenTheTableGoes: what came out is not changed by what is done later.
func TestSchemasStayWhenTheTableGoes(t *testing.T) {
	s := forPlans(t)
	schema, _ := s.Check(plan(scan("all")))
	drop(t, s, "all")
	load(t, s, table("all", types(3, 3, 3, 3, 3, 3)), make([]int, 6), 1, placeless(api.OK))
	if !slices.Equal(schema, types(1, 2, 3, 1, 2, 3)) {
		t.Errorf("P2: a schema that came out ahead of a Drop changed: %v", schema)
	}
}
