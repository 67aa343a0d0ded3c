package colrun_test

import (
	"testing"

	"colrun/api"
	"colrun/colrun"
)

// TestRunDocument: the document's examples.
func TestRunDocument(t *testing.T) {
	s := stored(t, documentTable())
	x := documentTable().Rows
	runs(t, s, "Filter", plan(scan("t"), filter(0, digit(1), col(0), part(api.Less, 0, 1))), x[1], x[3])
	runs(t, s, "Group", plan(scan("t"), group(0, told(1, api.Value0), told(0, api.Total), told(0, api.CountAll))),
		row(text("a"), number(1), number(2)), row(text("b"), number(2), number(1)), row(null, number(4), number(1)))
	runs(t, s, "Sort", plan(scan("t"), sorted(0, down(0))), x[2], x[3], x[1], x[0])
	faults(t, s, "Project", plan(scan("t"), project(0, expr(digit(8), col(0), digit(2), part(api.Sub, 1, 2), part(api.Div, 0, 3)))), atRow(api.ErrDivide, 1, 1))
	runs(t, s, "Join", plan(scan("t"), scan("t"), join(0, 1, api.Inner, pair(1, 1))),
		behind(x[0], x[0]), behind(x[0], x[2]), behind(x[1], x[1]), behind(x[2], x[0]), behind(x[2], x[2]))
}

// TestRunScan: tables of each type of column, with NULLs and without rows, of one row and of as many as may be.
func TestRunScan(t *testing.T) {
	many := table("many", types(1, 2, 3, 1, 2, 3))
	d := &dice{state: 3}
	for range api.MaxRows {
		many.Rows = append(many.Rows, row(d.value(1, 9), d.value(2, 9), d.value(3, 50), d.value(1, 2), d.value(2, 2), d.value(3, 2)))
	}
	l := []api.Table{documentTable(), factsTable(), noFacts(), table("one", types(3), row(longText(40))), many}
	s := stored(t, l...)
	for _, x := range l {
		runs(t, s, "Scan of "+x.Name, plan(scan(x.Name)), x.Rows...)
	}
}

func TestRunFilter(t *testing.T) {
	f := factsTable().Rows
	s := stored(t, factsTable(), noFacts())
	for _, c := range []struct {
		name  string
		parts []api.Part
		want  []api.Row
	}{
		{"a column", expr(col(1)), rows(f[0], f[4], f[6])},
		{"TRUE", expr(yes), f},
		{"FALSE", expr(constant(api.Bool, truth(false))), nil},
		{"NULL", expr(constant(api.Bool, null)), nil},
		{"Not", expr(col(1), part(api.Not, 0, 0)), rows(f[1], f[3])},
		{"IsNull", expr(col(1), part(api.IsNull, 0, 0)), rows(f[2], f[5])},
		{"not IsNull", expr(col(2), part(api.IsNull, 0, 0), part(api.Not, 1, 0)), rows(f[0], f[1], f[2], f[4], f[5], f[6])},
		{"a text below", expr(col(2), constant(api.Text, text("b")), part(api.Less, 0, 1)), rows(f[1], f[2], f[5])},
		{"a number above", expr(digit(0), col(3), part(api.Less, 0, 1)), rows(f[0], f[1], f[6])},
		{"the last part alone is the value", expr(constant(api.Bool, truth(false)), col(1), part(api.Not, 0, 0)), f},
	} {
		runs(t, s, "Filter by "+c.name, plan(scan("facts"), filter(0, c.parts...)), c.want...)
		runs(t, s, "Filter without rows by "+c.name, plan(scan("none"), filter(0, c.parts...)))
	}
	second := filter(0, yes)
	second.Exprs = append(second.Exprs, expr(digit(1), digit(0), part(api.Div, 0, 1)))
	runs(t, s, "Filter with a second expression", plan(scan("facts"), second), f...)
}

func TestRunProject(t *testing.T) {
	x := documentTable().Rows
	s := stored(t, documentTable(), noFacts())
	runs(t, s, "columns, turned and twice", plan(scan("t"), project(0, expr(col(1)), expr(col(0)), expr(col(1)))),
		row(x[0][1], x[0][0], x[0][1]), row(x[1][1], x[1][0], x[1][1]), row(x[2][1], x[2][0], x[2][1]), row(x[3][1], x[3][0], x[3][1]))
	six := project(0, expr(digit(1)), expr(yes), expr(constant(api.Text, text("x"))), expr(constant(api.Text, null)), expr(col(0)), expr(col(0), part(api.IsNull, 0, 0)))
	runs(t, s, "six expressions", plan(scan("t"), six, limit(1, 3)),
		row(number(1), truth(true), text("x"), null, number(1), truth(false)),
		row(number(1), truth(true), text("x"), null, number(2), truth(false)),
		row(number(1), truth(true), text("x"), null, null, truth(true)))
	runs(t, s, "without rows", plan(scan("none"), project(0, expr(digit(1), digit(0), part(api.Div, 0, 1)))))
	runs(t, s, "a part that is used twice", plan(scan("t"), project(0, expr(col(0), part(api.Add, 0, 0), part(api.Mul, 1, 1), part(api.Sub, 2, 1)))),
		row(number(2)), row(number(12)), row(null), row(number(56)))
}

func TestRunLimit(t *testing.T) {
	f := factsTable().Rows
	s := stored(t, factsTable(), noFacts())
	for _, k := range []int{0, 1, 2, 6, 7, 8, 999, 1000} {
		runs(t, s, "Limit", plan(scan("facts"), limit(0, k)), f[:min(k, len(f))]...)
		runs(t, s, "Limit without rows", plan(scan("none"), limit(0, k)))
	}
	runs(t, s, "two Limits", plan(scan("facts"), limit(0, 5), limit(1, 3)), f[:3]...)
	runs(t, s, "two Limits, the first of less", plan(scan("facts"), limit(0, 3), limit(1, 5)), f[:3]...)
}

func TestRunUnion(t *testing.T) {
	f, x := factsTable().Rows, documentTable().Rows
	s := stored(t, factsTable(), noFacts(), documentTable())
	runs(t, s, "a table and itself", plan(scan("t"), scan("t"), union(0, 1)), append(documentTable().Rows, x...)...)
	runs(t, s, "nothing behind", plan(scan("facts"), scan("none"), union(0, 1)), f...)
	runs(t, s, "nothing ahead", plan(scan("none"), scan("facts"), union(0, 1)), f...)
	runs(t, s, "nothing and nothing", plan(scan("none"), scan("none"), union(0, 1)))
	runs(t, s, "the later node ahead", plan(scan("t"), limit(0, 1), scan("t"), union(2, 1)), x[0], x[1], x[2], x[3], x[0])
	runs(t, s, "three", plan(scan("t"), scan("t"), union(0, 1), scan("t"), limit(3, 1), union(4, 2), limit(5, 6)), x[0], x[0], x[1], x[2], x[3], x[0])
}

// TestRunOfSeveralNodes: a plan in which each kind of node has its part.
func TestRunOfSeveralNodes(t *testing.T) {
	s := stored(t, factsTable(), documentTable(), noFacts())
	p := plan(
		scan("facts"),
		filter(0, col(2), part(api.IsNull, 0, 0), part(api.Not, 1, 0)),
		scan("t"),
		join(1, 2, api.Left, pair(2, 1)),
		group(3, told(2, api.Value0), told(0, api.Total), told(4, api.Most), told(0, api.CountAll)),
		scan("facts"),
		project(5, expr(col(2)), expr(col(0)), expr(digit(7)), expr(digit(9))),
		limit(6, 2),
		union(4, 7),
		sorted(8, down(0), key(3)),
		limit(9, 5))
	runs(t, s, "several nodes", p,
		row(text("b"), number(2), number(2), number(3)),
		row(text("b"), number(3), number(7), number(9)),
		row(text("ab"), number(1), null, number(1)),
		row(text("a"), null, number(1), number(2)),
		row(text(""), null, null, number(1)))
	p.Nodes[0].Table, p.Nodes[5].Table = "none", "none"
	runs(t, s, "several nodes without rows", p)
}

// TestRunOfTwelveNodes: as many as may be, one behind the other, and as pairs.
func TestRunOfTwelveNodes(t *testing.T) {
	s := stored(t, documentTable())
	x := documentTable().Rows
	long := plan(scan("t"))
	for i := range 11 {
		long.Nodes = append(long.Nodes, sorted(i, api.Key{Col: i % 2, Down: i%3 == 0}))
	}
	want, _ := meant(long, []api.Table{documentTable()})
	runs(t, s, "eleven Sorts", long, want...)
	pairs := plan(scan("t"), scan("t"), union(0, 1), scan("t"), union(2, 3), scan("t"), union(4, 5), scan("t"), union(6, 7), scan("t"), union(8, 9), limit(10, 22))
	var all []api.Row
	for range 6 {
		all = append(all, x...)
	}
	runs(t, s, "five Unions", pairs, all[:22]...)
}

// TestRunGoesByTheTablesThatAreThere: the rows are those of the call's time.
func TestRunGoesByTheTablesThatAreThere(t *testing.T) {
	s := colrun.New(roomy)
	p := plan(scan("t"), sorted(0, down(0)))
	faults(t, s, "no table yet", p, atNode(0))
	load(t, s, documentTable(), hows(0, 0), 2, placeless(api.OK))
	x := documentTable().Rows
	runs(t, s, "loaded", p, x[2], x[3], x[1], x[0])
	drop(t, s, "t")
	faults(t, s, "dropped", p, atNode(0))
	load(t, s, table("t", types(3), row(text("a")), row(text("b"))), hows(0), 1, placeless(api.OK))
	runs(t, s, "another one", p, row(text("b")), row(text("a")))
}
