package colrun_test

import (
	"math"
	"testing"

	"colrun/api"
)

// byZero is an expression that is in error where column c is n; over is one that is too great from n on.
func byZero(c int, n int64) []api.Part {
	return expr(digit(60), col(c), digit(n), part(api.Sub, 1, 2), part(api.Div, 0, 3))
}

func over(c int, n int64) []api.Part {
	return expr(digit(mostNumber), col(c), digit(n-1), part(api.Sub, 1, 2), part(api.Add, 0, 3))
}

// withTest is the expression with a part behind it that is TRUE or FALSE.
func withTest(parts []api.Part) []api.Part {
	return append(parts, api.Part{Op: api.IsNull, L: len(parts) - 1})
}

// TestExpressionsInError: the first row, in it the first expression, in it the first part; whatever is in error counts, if it is used or not.
func TestExpressionsInError(t *testing.T) {
	x := table("x", types(1, 1), row(number(0), number(mostNumber)), row(null, number(0)), row(number(2), number(1)), row(number(3), number(leastNumber)), row(number(4), null), row(number(2), number(0)))
	s := stored(t, x)
	grow := expr(col(1), digit(1), part(api.Add, 0, 1))
	shrink := expr(col(1), digit(1), part(api.Sub, 0, 1))
	divide := expr(digit(1), col(1), part(api.Div, 0, 1))
	good := expr(col(0))
	for _, c := range []struct {
		name  string
		exprs [][]api.Part
		code  api.Errno
		row   int
	}{
		{"one row", [][]api.Part{byZero(0, 3)}, api.ErrDivide, 3},
		{"two rows", [][]api.Part{byZero(0, 2)}, api.ErrDivide, 2},
		{"the first row", [][]api.Part{grow}, api.ErrOverflow, 0},
		{"the last row", [][]api.Part{byZero(0, 4), good}, api.ErrDivide, 4},
		{"behind NULL", [][]api.Part{divide}, api.ErrDivide, 1},
		{"the second expression, in an earlier row", [][]api.Part{byZero(0, 3), byZero(0, 2)}, api.ErrDivide, 2},
		{"the first expression, in an earlier row", [][]api.Part{byZero(0, 2), shrink}, api.ErrDivide, 2},
		{"the second one, of another error", [][]api.Part{divide, grow}, api.ErrOverflow, 0},
		{"the first one, of another error", [][]api.Part{grow, divide}, api.ErrOverflow, 0},
		{"both in one row", [][]api.Part{byZero(0, 3), shrink}, api.ErrDivide, 3},
		{"both in one row, the other way round", [][]api.Part{shrink, byZero(0, 3)}, api.ErrOverflow, 3},
		{"the sixth of six", [][]api.Part{good, good, good, good, good, shrink}, api.ErrOverflow, 3},
		{"three, the last in the first row", [][]api.Part{byZero(0, 3), byZero(0, 2), grow}, api.ErrOverflow, 0},
		{"the first part of two in one row", [][]api.Part{expr(col(1), digit(1), part(api.Sub, 0, 1), col(0), digit(3), part(api.Sub, 3, 4), part(api.Div, 1, 5))}, api.ErrOverflow, 3},
		{"the first part of two in one row, the other way round", [][]api.Part{expr(col(1), digit(1), col(0), digit(3), part(api.Sub, 2, 3), part(api.Div, 1, 4), part(api.Sub, 0, 1))}, api.ErrDivide, 3},
		{"a later part in an earlier row", [][]api.Part{expr(col(1), digit(1), col(0), digit(3), part(api.Sub, 2, 3), part(api.Div, 1, 4), part(api.Add, 0, 1))}, api.ErrOverflow, 0},
		{"a part that takes one in error", [][]api.Part{expr(digit(1), digit(0), part(api.Div, 0, 1), digit(mostNumber), part(api.Add, 2, 3), part(api.Add, 3, 3))}, api.ErrDivide, 0},
		{"a part that nothing takes", [][]api.Part{append(byZero(0, 2), digit(1))}, api.ErrDivide, 2},
		{"a part that cannot change the value", [][]api.Part{append(byZero(0, 2), digit(0), part(api.Mul, 4, 5))}, api.ErrDivide, 2},
		{"a part that is asked for NULL", [][]api.Part{withTest(byZero(0, 2))}, api.ErrDivide, 2},
		{"a great number", [][]api.Part{over(0, 2)}, api.ErrOverflow, 2},
	} {
		faults(t, s, "Project: "+c.name, plan(scan("x"), project(0, c.exprs...)), atRow(c.code, 1, c.row))
		if len(c.exprs) == 1 {
			faults(t, s, "Filter: "+c.name, plan(scan("x"), filter(0, withTest(c.exprs[0])...)), atRow(c.code, 1, c.row))
		}
	}
	falseAnd := expr(constant(api.Bool, truth(false)), digit(1), digit(0), part(api.Div, 1, 2), part(api.IsNull, 3, 0), part(api.And, 0, 4))
	faults(t, s, "FALSE and an error", plan(scan("x"), filter(0, falseAnd...)), atRow(api.ErrDivide, 1, 0))
	falseAnd[0], falseAnd[5].Op = yes, api.Or
	faults(t, s, "TRUE or an error", plan(scan("x"), filter(0, falseAnd...)), atRow(api.ErrDivide, 1, 0))
}

// TestRowsAreThoseOfL: the number of a row is the one that it has below, not in the table.
func TestRowsAreThoseOfL(t *testing.T) {
	s := stored(t, repeated("x", 20, 20))
	late := filter(0, digit(9), col(0), part(api.Less, 0, 1)) // 10 to 19
	faults(t, s, "behind a Filter", plan(scan("x"), late, project(1, byZero(0, 13))), atRow(api.ErrDivide, 2, 3))
	faults(t, s, "behind a Sort", plan(scan("x"), sorted(0, down(0)), filter(1, withTest(byZero(0, 13))...)), atRow(api.ErrDivide, 2, 6))
	faults(t, s, "behind a Union", plan(scan("x"), late, scan("x"), union(1, 2), project(3, byZero(0, 3))), atRow(api.ErrDivide, 4, 13))
	faults(t, s, "behind a Group", plan(scan("x"), group(0, told(0, api.CountAll), told(0, api.Value0)), project(1, byZero(1, 19))), atRow(api.ErrDivide, 2, 19))
	runs(t, s, "left out by a Filter", plan(scan("x"), late, project(1, byZero(0, 3)), limit(2, 1)), row(number(8)))
	runs(t, s, "left out by a Limit below", plan(scan("x"), limit(0, 3), project(1, byZero(0, 3))), row(number(-20)), row(number(-30)), row(number(-60)))
}

// TestTheFirstNodeDecides: nodes are worked in order of their numbers, each wholly, whatever comes of them above.
func TestTheFirstNodeDecides(t *testing.T) {
	s := stored(t, repeated("x", 60, 1), table("empty", types(1)))
	wrong := project(0, byZero(1, 59))
	faults(t, s, "a Limit above leaves the row out", plan(scan("x"), wrong, limit(1, 1)), atRow(api.ErrDivide, 1, 59))
	faults(t, s, "a Limit of 0 above", plan(scan("x"), wrong, limit(1, 0)), atRow(api.ErrDivide, 1, 59))
	faults(t, s, "a Filter above leaves all out", plan(scan("x"), wrong, filter(1, constant(api.Bool, null))), atRow(api.ErrDivide, 1, 59))
	faults(t, s, "a Join with nothing", plan(scan("x"), wrong, scan("empty"), join(1, 2, api.Inner, pair(0, 0))), atRow(api.ErrDivide, 1, 59))
	faults(t, s, "nothing joined with it", plan(scan("x"), wrong, scan("empty"), join(2, 1, api.Semi, pair(0, 0))), atRow(api.ErrDivide, 1, 59))
	other := project(2, byZero(1, 0))
	faults(t, s, "two Projects, the later one in an earlier row", plan(scan("x"), wrong, scan("x"), other, union(1, 3)), atRow(api.ErrDivide, 1, 59))
	faults(t, s, "the same, named the other way round", plan(scan("x"), wrong, scan("x"), other, union(3, 1)), atRow(api.ErrDivide, 1, 59))
	pairs := join(0, 1, api.Inner, pair(0, 0)) // 3600
	faults(t, s, "too many rows first", plan(scan("x"), scan("x"), pairs, project(2, expr(col(0))), scan("x"), project(4, byZero(1, 0)), union(3, 5)), inNode(api.ErrMany, 2))
	faults(t, s, "a division first", plan(scan("x"), project(0, byZero(1, 0)), scan("x"), scan("x"), join(2, 3, api.Inner, pair(0, 0)), project(4, expr(col(0))), union(1, 5)), atRow(api.ErrDivide, 1, 0))
	faults(t, s, "a sum ahead of a division", plan(scan("x"), project(0, expr(digit(mostNumber))), group(1, told(0, api.CountAll), told(0, api.Total)), project(2, byZero(0, 60))), atGroup(2, 0, 1))
}

// TestOptions: ErrArg at the edges, behind ErrPlan, ahead of all that comes up in nodes.
func TestOptions(t *testing.T) {
	s := stored(t, documentTable())
	x := documentTable().Rows
	divides := plan(scan("t"), project(0, byZero(0, 1)))
	good := api.Options{Batch: 10, Budget: 10, Bloom: 10, Seed: 10}
	try := func(o api.Options, isGood bool) {
		t.Helper()
		p := plan(scan("t"), sorted(0, key(0)))
		if isGood {
			answersBy(t, s, "good options", p, o, rows(x[2], x[0], x[1], x[3]), placeless(api.OK))
			answersBy(t, s, "good options, a division", divides, o, nil, atRow(api.ErrDivide, 1, 0))
		} else {
			answersBy(t, s, "wrong options", p, o, nil, placeless(api.ErrArg))
			answersBy(t, s, "wrong options, a division", divides, o, nil, placeless(api.ErrArg))
		}
		answersBy(t, s, "no such table", plan(scan("t"), limit(0, 1), scan("u"), union(1, 2)), o, nil, atNode(2))
		answersBy(t, s, "no nodes", plan(), o, nil, atNode(api.None))
		answersBy(t, s, "a node that none names", plan(scan("t"), scan("t")), o, nil, atNode(0))
	}
	strange := []int{math.MinInt, math.MinInt32, -1 << 33, -1, 0, 1, 2, 3, 999, 1000, 1001, 4095, 4096, 4097, 1 << 16, 1<<32 + 5, math.MaxInt}
	for _, n := range strange {
		o := good
		o.Batch = n
		try(o, n >= 1 && n <= 1000)
		o = good
		o.Budget = n
		try(o, n >= 2 && n <= 1000)
		o = good
		o.Bloom = n
		try(o, n >= 0 && n <= 4096)
		o = good
		o.Seed = n
		try(o, true)
	}
	try(api.Options{}, false)
	try(api.Options{Batch: 1, Budget: 2}, true)
}

// TestRunChecksAsCheck: each plan that is none is one for Run too, with the same node.
func TestRunChecksAsCheck(t *testing.T) {
	s := forPlans(t)
	d := &dice{state: 31}
	wrong := 0
	for range 1500 {
		p := d.thrownPlan()
		if len(p.Nodes) > 0 {
			p = d.spoiltPlan(p)
		}
		if _, f := s.Check(p); f.Code != api.OK {
			wrong++
			answersBy(t, s, "a wrong plan", p, d.thrownOptions(), nil, f)
			answersBy(t, s, "a wrong plan, wrong options", p, api.Options{Batch: -1}, nil, f)
		}
	}
	if wrong < 300 {
		t.Errorf("only %d wrong plans", wrong)
	}
}
