package colrun_test

import (
	"math"
	"slices"
	"strings"
	"testing"

	"colrun/api"
	"colrun/colrun"
)

const (
	leastNumber = math.MinInt64
	mostNumber  = math.MaxInt64
)

func down(col int) api.Key { return api.Key{Col: col, Down: true} }

func digit(n int64) api.Part { return constant(api.Int, number(n)) }

func rows(l ...api.Row) []api.Row { return l }

func behind(a, b api.Row) api.Row { return slices.Concat(a, b) }

// atRow is the fault of an expression in error, atGroup of a sum that does not fit, inNode of a node as a whole.
func atRow(code api.Errno, node, row int) api.Fault {
	return api.Fault{Code: code, Node: node, Row: row, Column: -1, Page: -1}
}

func atGroup(node, group, column int) api.Fault {
	return api.Fault{Code: api.ErrOverflow, Node: node, Row: group, Column: column, Page: -1}
}

func inNode(code api.Errno, node int) api.Fault { return atRow(code, node, api.None) }

// someOptions change nothing: their edges, and some between.
var someOptions = []api.Options{
	{Batch: 1, Budget: 2},
	{Batch: 1000, Budget: 1000, Bloom: 4096, Seed: math.MinInt},
	{Batch: 2, Budget: 3, Bloom: 1, Seed: 1},
	{Batch: 3, Budget: 2, Bloom: 64, Seed: -1},
	{Batch: 7, Budget: 5, Bloom: 65, Seed: math.MaxInt},
}

// stored is a store with these tables, written plainly in groups of two.
func stored(t *testing.T, tables ...api.Table) *colrun.Store {
	t.Helper()
	s := colrun.New(roomy)
	for _, x := range tables {
		load(t, s, x, make([]int, len(x.Types)), 2, placeless(api.OK))
	}
	return s
}

// runs fails unless the plan has these rows, whatever the options, and leaves no page.
func runs(t *testing.T, s *colrun.Store, name string, p api.Plan, want ...api.Row) {
	t.Helper()
	answers(t, s, name, p, want, placeless(api.OK))
}

// faults fails unless the plan has this fault, whatever the options, and leaves no page.
func faults(t *testing.T, s *colrun.Store, name string, p api.Plan, want api.Fault) {
	t.Helper()
	answers(t, s, name, p, nil, want)
}

func answers(t *testing.T, s *colrun.Store, name string, p api.Plan, want []api.Row, fault api.Fault) {
	t.Helper()
	for _, o := range someOptions {
		answersBy(t, s, name, p, o, want, fault)
	}
}

func answersBy(t *testing.T, s *colrun.Store, name string, p api.Plan, o api.Options, want []api.Row, fault api.Fault) {
	t.Helper()
	before := s.Used()
	got, f := s.Run(p, o)
	if f != fault || !sameRows(got, want) {
		t.Errorf("P10: %s, by %+v: %+v, %v, want %+v, %v", name, o, f, got, fault, want)
	}
	if f.Code != api.OK && got != nil {
		t.Errorf("P1: %s, by %+v: beside %+v %v", name, o, f, got)
	}
	if s.Used() != before {
		t.Errorf("P10: %s, by %+v: %d pages in use, want %d", name, o, s.Used(), before)
	}
}

// factsTable has columns of each type, with NULLs in each, and rows that are the same in some.
func factsTable() api.Table {
	return table("facts", types(1, 2, 3, 1),
		row(number(3), truth(true), text("b"), number(mostNumber)),
		row(null, truth(false), text(""), number(1)),
		row(number(1), null, text("ab"), number(leastNumber)),
		row(number(3), truth(false), null, null),
		row(number(-2), truth(true), text("b"), number(-1)),
		row(null, null, text("a"), number(0)),
		row(number(1), truth(true), text("b"), number(5)))
}

// noFacts is one of the same columns, without rows.
func noFacts() api.Table { return table("none", types(1, 2, 3, 1)) }

// repeated is a table of n rows: which of the different numbers, and the row's own.
func repeated(name string, n, different int) api.Table {
	x := table(name, types(1, 1))
	for i := range n {
		x.Rows = append(x.Rows, row(number(int64(i%different)), number(int64(i))))
	}
	return x
}

// thrownRows fills the tables of planTables with other rows: up to so many, out of few different values.
func (d *dice) thrownTables(most int) []api.Table {
	l := planTables()
	for i := range l {
		l[i].Rows = nil
		different := 1 + d.below(12)
		for range d.below(most + 1) {
			var r api.Row
			for _, typ := range l[i].Types {
				r = append(r, d.value(typ, different))
			}
			l[i].Rows = append(l[i].Rows, r)
		}
	}
	return l
}

// thrownWays are ways of writing that the table can have, and a group size.
func (d *dice) thrownWays(x api.Table) ([]int, int) {
	size := 1 + d.below(64)
	var l []int
	for _, typ := range x.Types {
		how := d.below(4)
		if how == api.Packed && typ == api.Text || how == api.Dictionary {
			how = api.Runs
			size = min(size, 16) // so that a dictionary holds all
			if typ != api.Text || d.below(2) == 0 {
				how = api.Dictionary
			}
		}
		l = append(l, how)
	}
	return l, size
}

func (d *dice) thrownOptions() api.Options {
	o := api.Options{Batch: 1 + d.below(20), Budget: 2 + d.below(20), Bloom: d.below(200), Seed: int(d.word())}
	if d.below(4) == 0 {
		o.Batch, o.Budget, o.Bloom = 1+d.below(1000), 2+d.below(999), d.below(4097)
	}
	return o
}

// thrownStore is a store with these tables, written in thrown ways.
func (d *dice) thrownStore(t *testing.T, disk api.Disk, tables []api.Table) *colrun.Store {
	t.Helper()
	s := colrun.New(disk)
	for _, x := range tables {
		ways, size := d.thrownWays(x)
		load(t, s, x, ways, size, placeless(api.OK))
	}
	return s
}

// richExpr is an expression of many parts over the schema, whose value is of the type.
func (d *dice) richExpr(schema string, typ int) []api.Part {
	var parts []api.Part
	for range 4 + d.below(12) {
		p := api.Part{Op: d.below(12), L: d.below(len(parts) + 1), R: d.below(len(parts) + 1), Col: d.below(len(schema))}
		if d.below(3) == 0 {
			p.Op = d.below(2)
		}
		if p.Op == api.Const {
			p.Col = 1 + d.below(3)
			p.V = d.value(p.Col, 8)
		}
		if len(parts) < 11 && modelPart(append(parts, p), schema) != "" {
			parts = append(parts, p)
		}
	}
	found := modelPart(parts, schema)
	for i := len(parts) - 1; i >= 0; i-- {
		if int(found[i+1]-'0') == typ {
			return parts[:i+1]
		}
	}
	return append(parts, constant(typ, d.value(typ, 5)))
}

// richPlan is a plan with several tables, put together by Joins and Unions, and with other nodes between.
func (d *dice) richPlan() api.Plan {
	tables := planTables()
	var p api.Plan
	add := func(n api.Node) int {
		p.Nodes = append(p.Nodes, n)
		return len(p.Nodes) - 1
	}
	at := add(scan(tables[d.below(len(tables))].Name))
	for left := 2 + d.below(10); len(p.Nodes) < left; {
		schema := modelSchema(p, at)
		if schema == "" {
			break // keys of two types: this is no plan
		}
		if len(p.Nodes) > 9 || d.below(3) > 0 {
			n := api.Node{Op: []int{1, 1, 2, 2, 4, 5, 5, 6}[d.below(8)], L: at, K: d.below(50), Keys: d.thrownKeys(schema, schema)}
			n.Exprs = [][]api.Part{d.richExpr(schema, api.Bool)}
			for n.Op == api.Project && (d.below(3) > 0 || len(n.Exprs) < 2) && len(n.Exprs) < 6 {
				n.Exprs = append(n.Exprs, d.richExpr(schema, 1+d.below(3)))
			}
			at = add(n)
			continue
		}
		at = d.richPair(&p, at, schema)
	}
	return p
}

// richPair puts a node together with another table: in a Join, or in a Union with it, if the types are the same, or can be made so.
func (d *dice) richPair(p *api.Plan, at int, schema string) int {
	x := planTables()[d.below(6)]
	p.Nodes = append(p.Nodes, scan(x.Name))
	other := len(p.Nodes) - 1
	right := modelSchema(*p, other)
	n := join(at, other, d.below(4), d.thrownKeys(schema, right)...)
	if n.K < api.Semi && len(schema+right) > 12 {
		n.K += 2
	}
	if d.below(2) == 0 && len(schema) <= 6 {
		var exprs [][]api.Part
		for _, typ := range schema {
			exprs = append(exprs, d.richExpr(right, int(typ-'0')))
		}
		p.Nodes = append(p.Nodes, project(other, exprs...))
		n = union(at, len(p.Nodes)-1)
		if d.below(2) == 0 {
			n.L, n.R = n.R, n.L
		}
	}
	p.Nodes = append(p.Nodes, n)
	return len(p.Nodes) - 1
}

// wholePlan is a thrown plan that is one.
func (d *dice) wholePlan() api.Plan {
	for {
		p := d.richPlan()
		if d.below(4) == 0 {
			p = d.thrownPlan()
		}
		if len(p.Nodes) > 0 {
			if _, f := modelCheck(p); f.Code == api.OK {
				return p
			}
		}
	}
}

func longText(n int) api.Value { return text(strings.Repeat("long", n/4+1)[:n]) }
