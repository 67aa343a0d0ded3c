package colrun_test

import (
	"slices"
	"testing"

	"colrun/api"
	"colrun/colrun"
)

func plan(nodes ...api.Node) api.Plan { return api.Plan{Nodes: nodes} }

func scan(name string) api.Node { return api.Node{Op: api.Scan, Table: name} }

func filter(l int, parts ...api.Part) api.Node {
	return api.Node{Op: api.Filter, L: l, Exprs: [][]api.Part{parts}}
}

func project(l int, exprs ...[]api.Part) api.Node {
	return api.Node{Op: api.Project, L: l, Exprs: exprs}
}

func join(l, r, k int, keys ...api.Key) api.Node {
	return api.Node{Op: api.Join, L: l, R: r, K: k, Keys: keys}
}

func group(l int, keys ...api.Key) api.Node { return api.Node{Op: api.Group, L: l, Keys: keys} }

func sorted(l int, keys ...api.Key) api.Node { return api.Node{Op: api.Sort, L: l, Keys: keys} }

func limit(l, k int) api.Node { return api.Node{Op: api.Limit, L: l, K: k} }

func union(l, r int) api.Node { return api.Node{Op: api.Union, L: l, R: r} }

func key(col int) api.Key { return api.Key{Col: col} }

func pair(col, other int) api.Key { return api.Key{Col: col, Other: other} }

func told(col, fn int) api.Key { return api.Key{Col: col, Fn: fn} }

func expr(parts ...api.Part) []api.Part { return parts }

func col(c int) api.Part { return api.Part{Op: api.Col, Col: c} }

func constant(typ int, v api.Value) api.Part { return api.Part{Op: api.Const, Col: typ, V: v} }

func part(op, l, r int) api.Part { return api.Part{Op: op, L: l, R: r} }

// yes is a part of type Bool.
var yes = constant(api.Bool, truth(true))

// someValue is a value of the type.
func someValue(typ int) api.Value {
	return map[int]api.Value{api.Int: number(-7), api.Bool: truth(true), api.Text: text("x")}[typ]
}

// planTables are the tables over which plans are checked: of one type each, of two, of all; and one without rows.
func planTables() []api.Table {
	return []api.Table{
		documentTable(),
		table("i", types(1), row(number(1))),
		table("b", types(2), row(truth(true)), row(null)),
		table("x", types(3), row(text(""))),
		table("all", types(1, 2, 3, 1, 2, 3)),
		table("five", types(3, 3, 1, 2, 1), row(null, null, null, null, null)),
	}
}

// forPlans is a store with these tables.
func forPlans(t *testing.T) *colrun.Store {
	t.Helper()
	s := colrun.New(roomy)
	for _, x := range planTables() {
		load(t, s, x, make([]int, len(x.Types)), 2, placeless(api.OK))
	}
	return s
}

// atNode is the fault of a plan that is none.
func atNode(node int) api.Fault {
	f := placeless(api.ErrPlan)
	f.Node = node
	return f
}

// checks fails unless the plan has this schema.
func checks(t *testing.T, s *colrun.Store, name string, p api.Plan, want ...int) {
	t.Helper()
	if schema, f := s.Check(p); f != placeless(api.OK) || !slices.Equal(schema, want) {
		t.Errorf("P9: %s: Check = %v, %+v, want %v", name, schema, f, want)
	}
}

// refusesPlan fails unless the plan is none, by this node.
func refusesPlan(t *testing.T, s *colrun.Store, name string, p api.Plan, node int) {
	t.Helper()
	if schema, f := s.Check(p); f != atNode(node) || len(schema) != 0 {
		t.Errorf("P9: %s: Check = %v, %+v, want %+v", name, schema, f, atNode(node))
	}
}

// typeOf fails unless this expression over the table "all" has this type; 0: unless it is none.
func typeOf(t *testing.T, s *colrun.Store, name string, parts []api.Part, want int) {
	t.Helper()
	p := plan(scan("all"), project(0, parts))
	if want == 0 {
		refusesPlan(t, s, name, p, 1)
		return
	}
	checks(t, s, name, p, want)
}

// copyPlan is the plan in other memory.
func copyPlan(p api.Plan) api.Plan {
	nodes := slices.Clone(p.Nodes)
	for i := range nodes {
		nodes[i].Keys = slices.Clone(nodes[i].Keys)
		nodes[i].Exprs = slices.Clone(nodes[i].Exprs)
		for k := range nodes[i].Exprs {
			nodes[i].Exprs[k] = slices.Clone(nodes[i].Exprs[k])
		}
	}
	return api.Plan{Nodes: nodes}
}

// filled is the plan with junk in all fields that say nothing: numbers, texts and lists that d throws.
func filled(p api.Plan, d *dice) api.Plan {
	p = copyPlan(p)
	for i, n := range p.Nodes {
		p.Nodes[i] = filledNode(n, d)
	}
	return p
}

// named are the fields of a node that the document's table names, by Op: L, R, Table, Exprs, Keys, K.
var named = []string{"T", "LE", "LE", "LRKk", "LK", "LK", "Lk", "LR"}

func filledNode(n api.Node, d *dice) api.Node {
	if n.Op < 0 || n.Op >= len(named) {
		return n
	}
	junk := api.Node{Op: n.Op, L: d.junk(), R: d.junk(), Table: d.junkText(), Exprs: d.junkExprs(), Keys: d.junkKeys(), K: d.junk()}
	for _, field := range named[n.Op] {
		switch field {
		case 'L':
			junk.L = n.L
		case 'R':
			junk.R = n.R
		case 'T':
			junk.Table = n.Table
		case 'E':
			junk.Exprs = filledExprs(n, d)
		case 'K':
			junk.Keys = filledKeys(n, d)
		case 'k':
			junk.K = n.K
		}
	}
	return junk
}

func filledKeys(n api.Node, d *dice) []api.Key {
	var keys []api.Key
	for _, k := range n.Keys {
		junk := api.Key{Col: k.Col, Other: d.junk(), Down: d.below(2) == 0, Fn: d.junk()}
		switch {
		case n.Op == api.Join:
			junk.Other = k.Other
		case n.Op == api.Sort:
			junk.Down = k.Down
		case n.Op == api.Group:
			junk.Fn = k.Fn
			if k.Fn == api.CountAll {
				junk.Col = d.junk()
			}
		}
		keys = append(keys, junk)
	}
	return keys
}

func filledExprs(n api.Node, d *dice) [][]api.Part {
	var exprs [][]api.Part
	for _, parts := range n.Exprs {
		var l []api.Part
		for _, p := range parts {
			l = append(l, filledPart(p, d))
		}
		exprs = append(exprs, l)
	}
	if n.Op == api.Filter && len(exprs) > 0 {
		exprs = append(exprs[:1], d.junkExprs()...)
	}
	return exprs
}

func filledPart(p api.Part, d *dice) api.Part {
	junk := api.Part{Op: p.Op, L: d.junk(), R: d.junk(), Col: d.junk(), V: api.Value{Kind: d.junk(), N: int64(d.junk()), S: d.junkText()}}
	switch {
	case p.Op == api.Col:
		junk.Col = p.Col
	case p.Op == api.Const:
		junk.Col, junk.V = p.Col, p.V
	case p.Op == api.Not || p.Op == api.IsNull:
		junk.L = p.L
	default:
		junk.L, junk.R = p.L, p.R
	}
	return junk
}
