package colrun_test

import (
	"math"
	"slices"
	"strconv"
	"strings"
	"testing"

	"colrun/api"
)

// rightPlan is a plan with its schema.
type rightPlan struct {
	name string
	plan api.Plan
	want []int
}

// rightPlans are plans of each Op and of several of them, over planTables.
func rightPlans() []rightPlan {
	less := expr(constant(api.Int, number(1)), col(0), part(api.Less, 0, 1))
	divided := expr(constant(api.Int, number(8)), col(0), constant(api.Int, number(2)), part(api.Sub, 1, 2), part(api.Div, 0, 3))
	return []rightPlan{
		{"scan", plan(scan("t")), types(1, 3)},
		{"scan of numbers", plan(scan("i")), types(1)},
		{"scan of truth values", plan(scan("b")), types(2)},
		{"scan of texts", plan(scan("x")), types(3)},
		{"scan of all types", plan(scan("all")), types(1, 2, 3, 1, 2, 3)},

		{"the document's filter", plan(scan("t"), filter(0, less...)), types(1, 3)},
		{"filter by a column", plan(scan("five"), filter(0, col(3))), types(3, 3, 1, 2, 1)},
		{"filter by NULL", plan(scan("t"), filter(0, constant(api.Bool, null))), types(1, 3)},
		{"filter by what it does not take", plan(scan("t"), filter(0, col(0), col(1), yes)), types(1, 3)},
		{"filter of filter", plan(scan("b"), filter(0, col(0)), filter(1, col(0), part(api.Not, 0, 0))), types(2)},

		{"the document's project", plan(scan("t"), project(0, divided)), types(1)},
		{"project of each type", plan(scan("all"), project(0, expr(col(2)), expr(col(4)), expr(col(0)))), types(3, 2, 1)},
		{"project of one column thrice", plan(scan("x"), project(0, expr(col(0)), expr(col(0)), expr(col(0)))), types(3, 3, 3)},
		{"project of project", plan(scan("x"), project(0, expr(col(0), part(api.IsNull, 0, 0)), expr(divided[0])), project(1, expr(col(1)), expr(col(0)), expr(col(1)))), types(1, 2, 1)},
		{"filter by a projected column", plan(scan("x"), project(0, expr(col(0)), expr(yes)), filter(1, col(1))), types(3, 2)},

		{"the document's join", plan(scan("t"), scan("t"), join(0, 1, api.Inner, pair(1, 1))), types(1, 3, 1, 3)},
		{"inner", plan(scan("t"), scan("five"), join(0, 1, api.Inner, pair(0, 4), pair(1, 1))), types(1, 3, 3, 3, 1, 2, 1)},
		{"inner, the later one first", plan(scan("t"), scan("five"), join(1, 0, api.Inner, pair(4, 0), pair(1, 1))), types(3, 3, 1, 2, 1, 1, 3)},
		{"left", plan(scan("b"), scan("all"), join(0, 1, api.Left, pair(0, 1), pair(0, 4))), types(2, 1, 2, 3, 1, 2, 3)},
		{"semi", plan(scan("t"), scan("five"), join(0, 1, api.Semi, pair(0, 4))), types(1, 3)},
		{"anti", plan(scan("t"), scan("five"), join(1, 0, api.Anti, pair(4, 0))), types(3, 3, 1, 2, 1)},
		{"join on one pair four times", plan(scan("i"), scan("i"), join(0, 1, api.Left, pair(0, 0), pair(0, 0), pair(0, 0), pair(0, 0))), types(1, 1)},

		{"the document's group", plan(scan("t"), group(0, told(1, api.Value0), told(0, api.Total), told(0, api.CountAll))), types(3, 1, 1)},
		{"group by three types", plan(scan("all"), group(0, told(2, api.Value0), told(1, api.Value0), told(0, api.Value0))), types(3, 2, 1)},
		{"group by nothing", plan(scan("all"), group(0, told(2, api.Least), told(1, api.Most), told(2, api.Count), told(5, api.Most))), types(3, 2, 1, 3)},
		{"group by one column twice", plan(scan("x"), group(0, told(0, api.Value0), told(0, api.Value0))), types(3, 3)},
		{"group that is wider than its rows", plan(scan("i"), group(0, told(0, api.Total), told(0, api.Least), told(0, api.Most), told(0, api.Count))), types(1, 1, 1, 1)},
		{"group of group", plan(scan("t"), group(0, told(1, api.Value0), told(1, api.Count)), group(1, told(1, api.Total), told(0, api.Most))), types(1, 3)},

		{"the document's sort", plan(scan("t"), sorted(0, api.Key{Down: true})), types(1, 3)},
		{"sort by each type", plan(scan("all"), sorted(0, key(5), key(4), key(3), key(5))), types(1, 2, 3, 1, 2, 3)},
		{"limit", plan(scan("five"), limit(0, 7)), types(3, 3, 1, 2, 1)},
		{"union", plan(scan("t"), scan("t"), union(1, 0)), types(1, 3)},
		{"union of what was made alike", plan(scan("five"), scan("t"), project(0, expr(col(2)), expr(col(1))), union(1, 2)), types(1, 3)},
		{"union of a group and numbers", plan(scan("x"), scan("i"), group(0, told(9, api.CountAll)), union(2, 1)), types(1)},

		{"all of them", allNodes(), types(3, 1)},
		{"names that cross", plan(scan("t"), scan("five"), scan("x"), limit(0, 1), join(3, 2, api.Semi, pair(1, 0)), join(1, 4, api.Inner, pair(0, 1))), types(3, 3, 1, 2, 1, 1, 3)},
	}
}

// allNodes is a plan of 12 nodes with each Op.
func allNodes() api.Plan {
	return plan(
		scan("t"), scan("five"), scan("t"),
		filter(0, col(1), col(1), part(api.Eq, 0, 1)),
		project(2, expr(col(1)), expr(col(0), col(0), part(api.Mul, 0, 1))),
		join(3, 1, api.Left, pair(0, 2)),
		group(5, told(1, api.Value0), told(0, api.Total)),
		limit(4, 1000),
		union(6, 7),
		sorted(8, key(1), key(0)),
		filter(9, yes),
		limit(10, 0),
	)
}

func TestCheckTellsTheSchema(t *testing.T) {
	s := forPlans(t)
	for _, c := range rightPlans() {
		checks(t, s, c.name, c.plan, c.want...)
	}
}

// TestFieldsThatSayNothing fills them with any numbers, texts and lists.
func TestFieldsThatSayNothing(t *testing.T) {
	s := forPlans(t)
	d := &dice{state: 9}
	for _, c := range rightPlans() {
		for range 60 {
			checks(t, s, c.name, filled(c.plan, d), c.want...)
		}
	}
}

// TestNamesThatSayNothing: what stands in a field that says nothing names no node, neither a first time nor a second.
func TestNamesThatSayNothing(t *testing.T) {
	s := forPlans(t)
	for op := range 7 {
		if op == api.Join {
			continue
		}
		n := api.Node{Op: op, L: 1, R: 0, Table: "i", Exprs: [][]api.Part{expr(yes)}, Keys: []api.Key{{}}}
		loose := plan(scan("i"), scan("i"), n)
		if op == api.Scan {
			refusesPlan(t, s, "a Scan names none", loose, 0)
			continue
		}
		refusesPlan(t, s, "R names none", loose, 0)
		n.L, n.R = 0, 0
		if schema, f := s.Check(plan(scan("i"), n)); f != placeless(api.OK) || len(schema) != 1 {
			t.Errorf("P9: Op %d with L and R 0: %v, %+v", op, schema, f)
		}
	}
	second := scan("i")
	second.L, second.R = 0, 0
	checks(t, s, "a Scan's L and R beside a Union's", plan(scan("i"), second, union(0, 1)), 1)
}

// limits is a plan of so many nodes: a Scan, and Limits on it.
func limits(nodes int) api.Plan {
	p := plan(scan("t"))
	for len(p.Nodes) < nodes {
		p.Nodes = append(p.Nodes, limit(len(p.Nodes)-1, 3))
	}
	return p
}

func TestNumberOfNodes(t *testing.T) {
	s := forPlans(t)
	for n := 1; n <= 12; n++ {
		checks(t, s, strconv.Itoa(n)+" nodes", limits(n), 1, 3)
	}
	refusesPlan(t, s, "no list of nodes", api.Plan{}, api.None)
	refusesPlan(t, s, "no nodes", plan([]api.Node{}...), api.None)
	refusesPlan(t, s, "13 nodes", limits(13), api.None)
	refusesPlan(t, s, "14 nodes", limits(14), api.None)
	refusesPlan(t, s, "13 nodes, all wrong", plan(slices.Repeat([]api.Node{{Op: 99}}, 13)...), api.None)
	refusesPlan(t, s, "13 nodes that none names", plan(slices.Repeat([]api.Node{scan("t")}, 13)...), api.None)
	refusesPlan(t, s, "100000 nodes", plan(make([]api.Node, 100000)...), api.None)
}

// nots is an expression of so many parts.
func nots(parts int) []api.Part {
	e := expr(yes)
	for len(e) < parts {
		e = append(e, part(api.Not, len(e)-1, 0))
	}
	return e
}

func TestNumberOfParts(t *testing.T) {
	s := forPlans(t)
	for n := 1; n <= 12; n++ {
		name := strconv.Itoa(n) + " parts"
		checks(t, s, name+" of a Filter", plan(scan("t"), filter(0, nots(n)...)), 1, 3)
		checks(t, s, name+" of a Project", plan(scan("t"), project(0, expr(col(1)), nots(n))), 3, 2)
	}
	for _, e := range [][]api.Part{nil, {}, nots(13), nots(14), slices.Repeat(expr(yes), 100000)} {
		name := strconv.Itoa(len(e)) + " parts"
		refusesPlan(t, s, name+" of a Filter", plan(scan("t"), filter(0, e...)), 1)
		refusesPlan(t, s, name+" of a Project", plan(scan("t"), project(0, e)), 1)
		refusesPlan(t, s, name+" behind others", plan(scan("t"), project(0, expr(col(1)), nots(12), e)), 1)
	}
}

func TestNumberOfExpressions(t *testing.T) {
	s := forPlans(t)
	for n := range 9 {
		p := plan(scan("t"), project(0, slices.Repeat([][]api.Part{expr(col(1))}, n)...))
		name := strconv.Itoa(n) + " expressions"
		if n < 1 || n > 6 {
			refusesPlan(t, s, name, p, 1)
		} else {
			checks(t, s, name, p, slices.Repeat(types(3), n)...)
		}
	}
	refusesPlan(t, s, "a Filter of none", plan(scan("t"), api.Node{Op: api.Filter}), 1)
	refusesPlan(t, s, "a Filter of none", plan(scan("t"), api.Node{Op: api.Filter, Exprs: [][]api.Part{}}), 1)
}

// TestFilterOfMoreExpressions: it goes by the first one alone.
func TestFilterOfMoreExpressions(t *testing.T) {
	s := forPlans(t)
	wrong := [][]api.Part{nil, {}, expr(col(99)), expr(col(0)), expr(part(77, -1, 8)), nots(13)}
	for _, more := range wrong {
		n := filter(0, yes)
		for range 8 {
			n.Exprs = append(n.Exprs, more)
			checks(t, s, "a wrong expression behind", plan(scan("t"), n), 1, 3)
		}
		n.Exprs = [][]api.Part{more, expr(yes)}
		refusesPlan(t, s, "a wrong expression ahead", plan(scan("t"), n), 1)
	}
}

// TestFilterByWhatIsNotBool: of each type, by a column, a Const and what was worked out.
func TestFilterByWhatIsNotBool(t *testing.T) {
	s := forPlans(t)
	for typ := 1; typ <= 3; typ++ {
		for name, e := range map[string][]api.Part{
			"a column":                      expr(col(typ - 1)),
			"a later column":                expr(col(typ + 2)),
			"a constant":                    expr(constant(typ, someValue(typ))),
			"NULL":                          expr(constant(typ, null)),
			"a column, with a Bool ahead":   expr(yes, col(typ-1)),
			"a column, with an Int ahead":   expr(col(0), col(typ-1)),
			"a constant, with a Text ahead": expr(col(2), constant(typ, null)),
		} {
			p := plan(scan("all"), filter(0, e...))
			if typ == api.Bool {
				checks(t, s, name, p, 1, 2, 3, 1, 2, 3)
			} else {
				refusesPlan(t, s, name+" of the type "+strconv.Itoa(typ), p, 1)
			}
		}
	}
	refusesPlan(t, s, "a sum", plan(scan("all"), filter(0, col(0), part(api.Add, 0, 0))), 1)
	checks(t, s, "a comparison", plan(scan("i"), filter(0, col(0), part(api.Eq, 0, 0))), 1)
}

func TestNumberOfKeys(t *testing.T) {
	s := forPlans(t)
	for n := range 7 {
		keys := slices.Repeat([]api.Key{{}}, n)
		name := strconv.Itoa(n) + " keys"
		for _, c := range []rightPlan{
			{name + " of an inner join", plan(scan("b"), scan("b"), join(0, 1, api.Inner, keys...)), types(2, 2)},
			{name + " of a left join", plan(scan("b"), scan("b"), join(0, 1, api.Left, keys...)), types(2, 2)},
			{name + " of a semi join", plan(scan("b"), scan("b"), join(0, 1, api.Semi, keys...)), types(2)},
			{name + " of an anti join", plan(scan("b"), scan("b"), join(0, 1, api.Anti, keys...)), types(2)},
			{name + " of a group", plan(scan("b"), group(0, keys...)), slices.Repeat(types(2), n)},
			{name + " of a sort", plan(scan("b"), sorted(0, keys...)), types(2)},
		} {
			if n < 1 || n > 4 {
				refusesPlan(t, s, c.name, c.plan, len(c.plan.Nodes)-1)
			} else {
				checks(t, s, c.name, c.plan, c.want...)
			}
		}
	}
}

// TestWidth: schemas of 12 columns can be, of 13 not; and only Inner and Left lay columns side by side.
func TestWidth(t *testing.T) {
	s := forPlans(t)
	twelve := types(1, 2, 3, 1, 2, 3, 1, 2, 3, 1, 2, 3)
	wide := plan(scan("all"), scan("all"), join(0, 1, api.Inner, pair(0, 0)))
	checks(t, s, "6 and 6", wide, twelve...)
	for _, op := range []api.Node{filter(2, yes), sorted(2, key(11)), limit(2, 1)} {
		checks(t, s, "12 columns handed on", plan(append(slices.Clone(wide.Nodes), op)...), twelve...)
	}
	for k := range 4 {
		for _, n := range []struct {
			table string
			width int
		}{{"i", 1}, {"t", 2}, {"five", 5}, {"all", 6}} {
			at := map[string]int{"i": 0, "t": 0, "five": 2, "all": 0}[n.table]
			right := plan(append(slices.Clone(wide.Nodes), scan(n.table), join(2, 3, k, pair(0, at)))...)
			left := plan(append(slices.Clone(wide.Nodes), scan(n.table), join(3, 2, k, pair(at, 0)))...)
			name := "12 and " + strconv.Itoa(n.width) + " columns, K " + strconv.Itoa(k)
			if k == api.Inner || k == api.Left {
				refusesPlan(t, s, name, right, 4)
				refusesPlan(t, s, name+", the other way", left, 4)
			} else {
				checks(t, s, name, right, twelve...)
				checks(t, s, name+", the other way", left, planTypes(n.table)...)
			}
		}
	}
	eleven := plan(scan("all"), scan("five"), join(0, 1, api.Left, pair(0, 2)), scan("i"), join(2, 3, api.Left, pair(10, 0)))
	checks(t, s, "11 and 1", eleven, 1, 2, 3, 1, 2, 3, 3, 3, 1, 2, 1, 1)
	eleven.Nodes[3] = scan("t")
	refusesPlan(t, s, "11 and 2", eleven, 4)
	unions := plan(append(slices.Clone(wide.Nodes), scan("all"), scan("all"), join(3, 4, api.Left, pair(2, 2)), union(2, 5))...)
	checks(t, s, "a union of 12 columns", unions, twelve...)
	narrow := plan(append(slices.Clone(wide.Nodes), project(2, expr(col(11)), expr(col(0))))...)
	checks(t, s, "two of 12 columns", narrow, 3, 1)
}

// planTypes are the types of the table of planTables with this name.
func planTypes(name string) []int {
	for _, x := range planTables() {
		if x.Name == name {
			return x.Types
		}
	}
	return nil
}

func TestNumbersOfALimit(t *testing.T) {
	s := forPlans(t)
	for k, right := range map[int]bool{math.MinInt: false, -1 << 32: false, -1: false, 0: true, 1: true, 4: true, 999: true, 1000: true, 1001: false, 1 << 32: false, math.MaxInt: false} {
		p := plan(scan("t"), limit(0, k))
		if right {
			checks(t, s, "Limit "+strconv.Itoa(k), p, 1, 3)
		} else {
			refusesPlan(t, s, "Limit "+strconv.Itoa(k), p, 1)
		}
	}
}

// beside are numbers below and above those that there are, up to last.
func beside(last int) []int {
	return []int{math.MinInt, -1 << 32, -256, -last - 1, -1, last + 1, last + 2, 255, 256, 257, 1 << 32, 1<<32 + 1, math.MaxInt}
}

func TestNumbersOfNodes(t *testing.T) {
	s := forPlans(t)
	for op := range 8 {
		n := api.Node{Op: op, L: 0, R: 1, Table: "i", Exprs: [][]api.Part{expr(yes)}, Keys: []api.Key{{}}}
		want := map[int][]int{api.Project: types(2), api.Join: types(1, 1)}[op]
		if want == nil {
			want = types(1)
		}
		switch op {
		case api.Scan:
			checks(t, s, "Op 0", plan(n), 1)
		case api.Join, api.Union:
			checks(t, s, "Op "+strconv.Itoa(op), plan(scan("i"), scan("i"), n), want...)
		default:
			checks(t, s, "Op "+strconv.Itoa(op), plan(scan("i"), n), want...)
		}
	}
	for _, op := range beside(7) {
		n := api.Node{Op: op, L: 0, R: 1, Table: "i", Exprs: [][]api.Part{expr(yes)}, Keys: []api.Key{{}}}
		refusesPlan(t, s, "Op "+strconv.Itoa(op), plan(n), 0)
		refusesPlan(t, s, "Op "+strconv.Itoa(op), plan(scan("i"), n), 1)
		refusesPlan(t, s, "Op "+strconv.Itoa(op), plan(scan("i"), scan("i"), n), 2)
	}
}

func TestNumbersOfJoins(t *testing.T) {
	s := forPlans(t)
	for k := range 4 {
		want := types(2, 1, 2, 3, 1, 2, 3)
		if k >= 2 {
			want = types(2)
		}
		checks(t, s, "K "+strconv.Itoa(k), plan(scan("b"), scan("all"), join(0, 1, k, pair(0, 4))), want...)
	}
	for _, k := range beside(3) {
		refusesPlan(t, s, "K "+strconv.Itoa(k), plan(scan("b"), scan("all"), join(0, 1, k, pair(0, 4))), 2)
	}
}

// TestNumbersOfGroups: each Fn over a column of each type, and where there is no column.
func TestNumbersOfGroups(t *testing.T) {
	s := forPlans(t)
	for fn, want := range [][]int{{1, 2, 3}, {1, 1, 1}, {1, 1, 1}, {1, 0, 0}, {1, 2, 3}, {1, 2, 3}} {
		for c := range 6 {
			p := plan(scan("all"), group(0, told(c, fn)))
			name := "Fn " + strconv.Itoa(fn) + " of column " + strconv.Itoa(c)
			if want[c%3] == 0 {
				refusesPlan(t, s, name, p, 1)
			} else {
				checks(t, s, name, p, want[c%3])
			}
		}
		for _, c := range beside(5) {
			p := plan(scan("all"), group(0, told(0, 0), told(c, fn)))
			name := "Fn " + strconv.Itoa(fn) + " of column " + strconv.Itoa(c)
			if fn == api.CountAll {
				checks(t, s, name, p, 1, 1)
			} else {
				refusesPlan(t, s, name, p, 1)
			}
		}
	}
	for _, fn := range beside(5) {
		for c := range 3 {
			name := "Fn " + strconv.Itoa(fn)
			refusesPlan(t, s, name, plan(scan("all"), group(0, told(c, fn))), 1)
			refusesPlan(t, s, name+" behind others", plan(scan("all"), group(0, told(0, 0), told(0, 1), told(0, 2), told(c, fn))), 1)
		}
	}
}

// TestNumbersOfParts: each Op of parts of each two types, and the numbers beside.
func TestNumbersOfParts(t *testing.T) {
	s := forPlans(t)
	for op := api.Add; op <= api.IsNull; op++ {
		for l := range 3 {
			for r := range 3 {
				e := expr(col(0), col(1), constant(api.Text, null), part(op, l, r))
				want := 0
				switch {
				case op <= api.Div && l == 0 && r == 0:
					want = api.Int
				case op == api.Eq && l == r, op == api.Less && l == r:
					want = api.Bool
				case op == api.And && l == 1 && r == 1, op == api.Or && l == 1 && r == 1:
					want = api.Bool
				case op == api.Not && l == 1, op == api.IsNull:
					want = api.Bool
				}
				typeOf(t, s, "Op "+strconv.Itoa(op)+" of "+strconv.Itoa(l+1)+" and "+strconv.Itoa(r+1), e, want)
			}
		}
	}
	for _, op := range beside(11) {
		for l := range 3 {
			typeOf(t, s, "Op "+strconv.Itoa(op), expr(col(0), col(1), col(2), part(op, l, l)), 0)
			typeOf(t, s, "Op "+strconv.Itoa(op)+" ahead", expr(col(0), col(1), col(2), part(op, l, l), yes), 0)
		}
		typeOf(t, s, "Op "+strconv.Itoa(op)+" alone", expr(part(op, 0, 0)), 0)
	}
}

// TestPartsThatAPartTakes: any earlier ones, and no others; those that none takes must be right too.
func TestPartsThatAPartTakes(t *testing.T) {
	s := forPlans(t)
	for op := api.Add; op <= api.IsNull; op++ {
		operand := yes
		if op <= api.Div {
			operand = col(3)
		}
		want := api.Bool
		if op <= api.Div {
			want = api.Int
		}
		takesR := op != api.Not && op != api.IsNull
		name := "Op " + strconv.Itoa(op)
		for at := 1; at < 12; at++ {
			e := slices.Repeat(expr(operand), 12)
			for l := range at {
				e[at] = part(op, l, at-1-l)
				typeOf(t, s, name+" of earlier ones", e[:at+1], want)
			}
			for _, l := range []int{math.MinInt, -1, at, at + 1, 11, 12, 1 << 32, math.MaxInt} {
				if l > 0 && l < at {
					continue
				}
				e[at] = part(op, l, 0)
				typeOf(t, s, name+" of "+strconv.Itoa(l)+" at "+strconv.Itoa(at), e, 0)
				typeOf(t, s, name+" of "+strconv.Itoa(l)+" last", e[:at+1], 0)
				e[at] = part(op, 0, l)
				if takesR {
					typeOf(t, s, name+" of 0 and "+strconv.Itoa(l), e, 0)
					typeOf(t, s, name+" of 0 and "+strconv.Itoa(l)+" last", e[:at+1], 0)
				} else {
					typeOf(t, s, name+" of 0 beside "+strconv.Itoa(l), e[:at+1], want)
				}
			}
		}
		typeOf(t, s, name+" of itself", expr(part(op, 0, 0)), 0)
	}
	typeOf(t, s, "one part taken by many", expr(col(0), part(api.Add, 0, 0), part(api.Mul, 0, 1), part(api.Eq, 0, 2), part(api.IsNull, 0, 0), part(api.And, 3, 4)), api.Bool)
	typeOf(t, s, "parts that none takes", expr(col(0), col(1), col(2), yes, col(5)), api.Text)
}

func TestColumnsOfParts(t *testing.T) {
	s := forPlans(t)
	for c := range 6 {
		typeOf(t, s, "column "+strconv.Itoa(c), expr(col(c)), 1+c%3)
	}
	for _, c := range beside(5) {
		typeOf(t, s, "column "+strconv.Itoa(c), expr(col(c)), 0)
		typeOf(t, s, "column "+strconv.Itoa(c)+" ahead", expr(col(0), col(c), col(1)), 0)
	}
	refusesPlan(t, s, "a column of the table, not of the rows", plan(scan("all"), project(0, expr(col(5))), project(1, expr(col(1)))), 2)
	refusesPlan(t, s, "a column of R of a semi join", plan(scan("i"), scan("all"), join(0, 1, api.Semi, pair(0, 0)), filter(2, col(1))), 3)
	checks(t, s, "a column of R of a left join", plan(scan("i"), scan("all"), join(0, 1, api.Left, pair(0, 0)), filter(2, col(2))), 1, 1, 2, 3, 1, 2, 3)
}

// TestConstants: V must be a value, and of the type Col, which must be one.
func TestConstants(t *testing.T) {
	s := forPlans(t)
	long := strings.Repeat("x", 40)
	for _, c := range []struct {
		v    api.Value
		want int // the type, of the one that it has; 4: each; 0: it is no value
	}{
		{null, 4}, {number(0), 1}, {number(1), 1}, {number(math.MinInt64), 1}, {number(math.MaxInt64), 1},
		{truth(false), 2}, {truth(true), 2}, {text(""), 3}, {text("a"), 3}, {text("\x00\xff"), 3}, {text(long), 3},
		{text(long + "x"), 0}, {text(strings.Repeat("x", 100000)), 0},
		{api.Value{N: 1}, 0}, {api.Value{N: -1}, 0}, {api.Value{S: "a"}, 0},
		{api.Value{Kind: 1, S: "a"}, 0}, {api.Value{Kind: 1, N: 3, S: "\x00"}, 0},
		{api.Value{Kind: 2, N: 2}, 0}, {api.Value{Kind: 2, N: -1}, 0}, {api.Value{Kind: 2, N: 1 << 32}, 0}, {api.Value{Kind: 2, N: 1, S: "a"}, 0},
		{api.Value{Kind: 3, N: 1}, 0}, {api.Value{Kind: 3, N: -1, S: "a"}, 0},
		{api.Value{Kind: 4}, 0}, {api.Value{Kind: -1}, 0}, {api.Value{Kind: 257, N: 1}, 0}, {api.Value{Kind: math.MinInt}, 0}, {api.Value{Kind: math.MaxInt}, 0},
	} {
		for _, typ := range []int{1, 2, 3} {
			want := 0
			if c.want == typ || c.want == 4 {
				want = typ
			}
			typeOf(t, s, "a Const of the type "+strconv.Itoa(typ), expr(constant(typ, c.v)), want)
			if want == 0 {
				typeOf(t, s, "a wrong Const ahead", expr(constant(typ, c.v), yes), 0)
			}
		}
		for _, typ := range append(beside(3), 0, c.v.Kind+3, c.v.Kind-3) {
			if typ < 1 || typ > 3 {
				typeOf(t, s, "a Const of the type "+strconv.Itoa(typ), expr(constant(typ, c.v)), 0)
			}
		}
	}
	for _, kind := range beside(3) {
		typeOf(t, s, "a Const of its own type", expr(constant(kind, api.Value{Kind: kind})), 0)
	}
	typeOf(t, s, "NULL of type Int as a number", expr(constant(api.Int, null), part(api.Add, 0, 0)), api.Int)
	typeOf(t, s, "NULL of type Text as a number", expr(constant(api.Text, null), part(api.Add, 0, 0)), 0)
	typeOf(t, s, "NULLs of two types", expr(constant(api.Text, null), constant(api.Int, null), part(api.Eq, 0, 1)), 0)
	typeOf(t, s, "NULL of type Bool beside a column", expr(constant(api.Bool, null), col(1), part(api.Less, 0, 1)), api.Bool)
}
