package colrun_test

import (
	"slices"
	"strconv"
	"strings"
	"testing"

	"colrun/api"
	"colrun/colrun"
)

// A second Check, in which types and schemas are texts of digits: a plan is asked from what it names and backwards, not worked from the front.

// signatures are what a part may take and what it gives, by Op.
var signatures = []string{"", "", "11>1", "11>1", "11>1", "11>1", "11>2 22>2 33>2", "11>2 22>2 33>2", "22>2", "22>2", "2>2", "1>2 2>2 3>2"}

// modelPart is the type of a part, and of all ahead of it, as one digit each; "" if one of them is wrong.
func modelPart(parts []api.Part, schema string) string {
	if len(parts) == 0 {
		return "|"
	}
	last := parts[len(parts)-1]
	ahead := modelPart(parts[:len(parts)-1], schema)
	if ahead == "" || last.Op < 0 || last.Op > 11 {
		return ""
	}
	pick := func(from string, i int) string {
		if i < 0 || i >= len(from) {
			return "?"
		}
		return from[i : i+1]
	}
	typ := ""
	switch last.Op {
	case api.Col:
		typ = pick(schema, last.Col)
	case api.Const:
		typ = modelConst(last)
	default:
		earlier := strings.TrimPrefix(ahead, "|")
		takes := pick(earlier, last.L)
		if last.Op < api.Not {
			takes += pick(earlier, last.R)
		}
		for _, sign := range strings.Fields(signatures[last.Op]) {
			if rest, ok := strings.CutPrefix(sign, takes+">"); ok {
				typ = rest
			}
		}
	}
	if typ == "" || typ == "?" {
		return ""
	}
	return ahead + typ
}

// modelConst asks Pack, which refuses what is no value of the type.
func modelConst(p api.Part) string {
	if _, f := colrun.Pack(p.Col, api.Plain, list(p.V)); f.Code != api.OK {
		return ""
	}
	return strconv.Itoa(p.Col)
}

func modelExpr(parts []api.Part, schema string) string {
	all := modelPart(parts, schema)
	if len(parts) < 1 || len(parts) > 12 || all == "" {
		return ""
	}
	return all[len(all)-1:]
}

// modelTakes are the nodes that a node names.
func modelTakes(n api.Node) []int {
	switch n.Op {
	case api.Scan:
		return nil
	case api.Join, api.Union:
		return []int{n.L, n.R}
	}
	return []int{n.L}
}

// modelSchema is the schema of the node with this number, if all that it hangs on is right; else "".
func modelSchema(p api.Plan, i int) string {
	n := p.Nodes[i]
	if n.Op < 0 || n.Op > 7 {
		return ""
	}
	var below []string
	for at, l := range modelTakes(n) {
		if l < 0 || l >= i || slices.Contains(modelTakes(n)[:at], l) {
			return ""
		}
		for _, earlier := range p.Nodes[:i] {
			if earlier.Op >= 0 && earlier.Op <= 7 && slices.Contains(modelTakes(earlier), l) {
				return ""
			}
		}
		below = append(below, modelSchema(p, l))
	}
	if slices.Contains(below, "") {
		return ""
	}
	return modelNode(n, below)
}

func modelNode(n api.Node, below []string) string {
	keys := len(n.Keys) > 0 && len(n.Keys) < 5
	switch {
	case n.Op == api.Scan:
		out := ""
		for _, typ := range planTypes(n.Table) {
			out += strconv.Itoa(typ)
		}
		return out
	case n.Op == api.Filter && len(n.Exprs) > 0 && modelExpr(n.Exprs[0], below[0]) == "2":
		return below[0]
	case n.Op == api.Project && len(n.Exprs) < 7:
		out := ""
		for _, parts := range n.Exprs {
			typ := modelExpr(parts, below[0])
			if typ == "" {
				return ""
			}
			out += typ
		}
		return out
	case n.Op == api.Join && keys:
		return modelJoin(n, below[0], below[1])
	case n.Op == api.Group && keys:
		return modelGroup(n, below[0])
	case n.Op == api.Sort && keys && !slices.ContainsFunc(n.Keys, func(k api.Key) bool { return k.Col < 0 || k.Col >= len(below[0]) }):
		return below[0]
	case n.Op == api.Limit && n.K >= 0 && n.K <= 1000:
		return below[0]
	case n.Op == api.Union && below[0] == below[1]:
		return below[0]
	}
	return ""
}

func modelJoin(n api.Node, left, right string) string {
	for _, k := range n.Keys {
		if k.Col < 0 || k.Col >= len(left) || k.Other < 0 || k.Other >= len(right) || left[k.Col] != right[k.Other] {
			return ""
		}
	}
	switch {
	case n.K == 2 || n.K == 3:
		return left
	case (n.K == 0 || n.K == 1) && len(left+right) <= 12:
		return left + right
	}
	return ""
}

func modelGroup(n api.Node, below string) string {
	out := ""
	for _, k := range n.Keys {
		if k.Fn != 1 && (k.Fn < 0 || k.Fn > 5 || k.Col < 0 || k.Col >= len(below)) {
			return ""
		}
		if k.Fn == 3 && below[k.Col] != '1' {
			return ""
		}
		if k.Fn == 0 || k.Fn > 3 {
			out += below[k.Col : k.Col+1]
		} else {
			out += "1"
		}
	}
	return out
}

// modelCheck is a second Check, over planTables.
func modelCheck(p api.Plan) (string, api.Fault) {
	if len(p.Nodes) == 0 || len(p.Nodes) > 12 {
		return "", atNode(api.None)
	}
	var takes []int
	for i, n := range p.Nodes {
		if modelSchema(p, i) == "" {
			return "", atNode(i)
		}
		takes = append(takes, modelTakes(n)...)
	}
	last := len(p.Nodes) - 1
	for i := range last {
		if !slices.Contains(takes, i) {
			return "", atNode(i)
		}
	}
	return modelSchema(p, last), placeless(api.OK)
}

// thrownExpr is an expression over the schema, mostly right, whose value is mostly of the type.
func (d *dice) thrownExpr(schema string, typ int) []api.Part {
	var parts []api.Part
	for range 1 + d.below(6) {
		p := api.Part{Op: d.below(12), L: d.below(len(parts) + 1), R: d.below(len(parts) + 1), Col: d.below(len(schema))}
		if p.Op == api.Const {
			p.Col = 1 + d.below(3)
			p.V = d.value(p.Col, 4)
		}
		if modelPart(append(parts, p), schema) != "" {
			parts = append(parts, p)
		}
	}
	if modelExpr(parts, schema) != strconv.Itoa(typ) {
		parts = append(parts, constant(typ, d.value(typ, 5)))
	}
	return parts
}

// thrownKeys are columns of the one schema beside columns of the other, mostly of one type.
func (d *dice) thrownKeys(left, right string) []api.Key {
	var keys []api.Key
	for range 1 + d.below(4) {
		k := api.Key{Col: d.below(len(left)), Other: d.below(len(right)), Down: d.below(2) == 0, Fn: d.below(6)}
		for range 5 {
			if left[k.Col] == right[k.Other] {
				break
			}
			k.Col, k.Other = d.below(len(left)), d.below(len(right))
		}
		if k.Fn == api.Total && left[k.Col] != '1' {
			k.Fn = api.Count
		}
		keys = append(keys, k)
	}
	return keys
}

// thrownNode is a node that takes some of those that none names yet.
func (d *dice) thrownNode(p api.Plan, open []int) api.Node {
	n := api.Node{Op: d.below(8), K: d.below(4), Table: planTables()[d.below(6)].Name}
	if len(open) == 0 {
		n.Op = api.Scan
	}
	if n.Op == api.Scan {
		return n
	}
	n.L = open[d.below(len(open))]
	n.R = open[d.below(len(open))]
	if len(open) > 1 {
		for n.R == n.L {
			n.R = open[d.below(len(open))]
		}
	}
	left, right := modelSchema(p, n.L), modelSchema(p, n.R)
	n.Keys = d.thrownKeys(left, left)
	if n.Op == api.Join {
		n.Keys = d.thrownKeys(left, right)
	}
	n.Exprs = [][]api.Part{d.thrownExpr(left, api.Bool)}
	for range d.below(4) {
		n.Exprs = append(n.Exprs, d.thrownExpr(left, 1+d.below(3)))
	}
	return n
}

// thrownPlan is nodes that are right by themselves; the last ones take up those that none names, as far as it goes.
func (d *dice) thrownPlan() api.Plan {
	var p api.Plan
	var open []int
	for tries := 1 + d.below(20); tries > 0 && len(p.Nodes) < 12; tries-- {
		n := d.thrownNode(p, open)
		q := api.Plan{Nodes: append(slices.Clone(p.Nodes), n)}
		if modelSchema(q, len(p.Nodes)) == "" {
			continue
		}
		open = slices.DeleteFunc(open, func(i int) bool { return slices.Contains(modelTakes(n), i) })
		open = append(open, len(p.Nodes))
		p = q
		if len(open) > 1 && tries == 1 {
			tries += d.below(9)
		}
	}
	return p
}

// spoiltPlan is the plan with one number in it another one.
func (d *dice) spoiltPlan(p api.Plan) api.Plan {
	p = copyPlan(p)
	n := &p.Nodes[d.below(len(p.Nodes))]
	places := []*int{&n.Op, &n.L, &n.R, &n.K}
	for i := range n.Keys {
		places = append(places, &n.Keys[i].Col, &n.Keys[i].Other, &n.Keys[i].Fn)
	}
	for _, parts := range n.Exprs {
		for i := range parts {
			places = append(places, &parts[i].Op, &parts[i].L, &parts[i].R, &parts[i].Col, &parts[i].V.Kind)
		}
	}
	at := places[d.below(len(places))]
	switch d.below(3) {
	case 0:
		*at = d.junk()
	case 1:
		*at += 1 - 2*d.below(2)
	case 2:
		*at = d.below(4)
	}
	return p
}

// agrees fails unless both Checks answer the same; it tells whether the plan is one, and the node that is wrong.
func agrees(t *testing.T, s *colrun.Store, p api.Plan) (bool, int) {
	t.Helper()
	want, fault := modelCheck(p)
	schema, f := s.Check(p)
	got := ""
	for _, typ := range schema {
		got += strconv.Itoa(typ)
	}
	if got != want || f != fault {
		t.Fatalf("P9: Check(%+v) = %q, %+v, want %q, %+v", p, got, f, want, fault)
	}
	return f.Code == api.OK, f.Node
}

// TestCheckOfThrown holds both Checks against each other, over plans that are thrown, and with up to three numbers in them others.
func TestCheckOfThrown(t *testing.T) {
	s := forPlans(t)
	d := &dice{state: 13}
	right := map[int]int{}
	wrong := map[int]int{}
	for range 2000 {
		p := d.thrownPlan()
		for range 4 {
			if len(p.Nodes) == 0 {
				break
			}
			if ok, node := agrees(t, s, p); ok {
				right[len(p.Nodes)]++
			} else {
				wrong[node]++
			}
			agrees(t, s, filled(p, d))
			p = d.spoiltPlan(p)
		}
	}
	for n := 1; n <= 12; n++ {
		if right[n] < 50 || wrong[n-1] < 20 {
			t.Errorf("of %d nodes only %d plans were right, at node %d only %d wrong", n, right[n], n-1, wrong[n-1])
		}
	}
}
