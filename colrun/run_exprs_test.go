package colrun_test

import (
	"strings"
	"testing"

	"colrun/api"
)

// valueOf fails unless a part that takes these two values has this value, or this error. The values come once as constants, once out of columns.
func valueOf(t *testing.T, op int, a, b api.Value, typ int, want api.Value, code api.Errno) {
	t.Helper()
	constants := plan(scan("one"), project(0, expr(constant(typ, a), constant(typ, b), part(op, 0, 1))))
	columns := plan(scan("two"), project(0, expr(col(1), col(0), part(op, 1, 0))))
	s := stored(t, table("one", types(1), row(null)), table("two", types(typ, typ), row(a, b)))
	for name, p := range map[string]api.Plan{"constants": constants, "columns": columns} {
		got, f := s.Run(p, someOptions[0])
		if code == api.OK && (f != placeless(api.OK) || !sameRows(got, rows(row(want)))) {
			t.Errorf("P10: Op %d of %+v and %+v, %s: %v, %+v, want %+v", op, a, b, name, got, f, want)
		}
		if code != api.OK && (f != atRow(code, 1, 0) || got != nil) {
			t.Errorf("P10: Op %d of %+v and %+v, %s: %v, %+v, want the error %d", op, a, b, name, got, f, code)
		}
	}
}

// TestNumbers: Add, Sub, Mul and Div at ordinary numbers, at the edges of 64 bits, and at NULL.
func TestNumbers(t *testing.T) {
	const least, most = leastNumber, mostNumber
	for _, c := range []struct {
		op   int
		a, b int64
		want int64
		code api.Errno
	}{
		{api.Add, 2, 3, 5, 0}, {api.Add, -2, 3, 1, 0}, {api.Add, 0, 0, 0, 0},
		{api.Add, most, 0, most, 0}, {api.Add, most, 1, 0, api.ErrOverflow}, {api.Add, 1, most, 0, api.ErrOverflow}, {api.Add, most, most, 0, api.ErrOverflow}, {api.Add, most - 1, 1, most, 0}, {api.Add, 0x5555555555555555, 0x5555555555555555, 0, api.ErrOverflow},
		{api.Add, least, 0, least, 0}, {api.Add, least, -1, 0, api.ErrOverflow}, {api.Add, -1, least, 0, api.ErrOverflow}, {api.Add, least, least, 0, api.ErrOverflow}, {api.Add, least, most, -1, 0}, {api.Add, least + 1, -1, least, 0},
		{api.Sub, 2, 3, -1, 0}, {api.Sub, -2, -3, 1, 0}, {api.Sub, 0, most, -most, 0}, {api.Sub, 0, least, 0, api.ErrOverflow}, {api.Sub, -1, least, most, 0}, {api.Sub, 1, least, 0, api.ErrOverflow},
		{api.Sub, least, 1, 0, api.ErrOverflow}, {api.Sub, least, least, 0, 0}, {api.Sub, most, -1, 0, api.ErrOverflow}, {api.Sub, -2, most, 0, api.ErrOverflow}, {api.Sub, -1, most, least, 0}, {api.Sub, most, most, 0, 0},
		{api.Mul, 6, 7, 42, 0}, {api.Mul, -6, 7, -42, 0}, {api.Mul, -6, -7, 42, 0}, {api.Mul, 0, least, 0, 0}, {api.Mul, most, 0, 0, 0},
		{api.Mul, most, 1, most, 0}, {api.Mul, most, -1, -most, 0}, {api.Mul, least, 1, least, 0}, {api.Mul, 1, least, least, 0}, {api.Mul, least, -1, 0, api.ErrOverflow}, {api.Mul, -1, least, 0, api.ErrOverflow},
		{api.Mul, 1 << 32, 1 << 31, 0, api.ErrOverflow}, {api.Mul, -1 << 32, 1 << 31, least, 0}, {api.Mul, 1 << 31, -1 << 32, least, 0}, {api.Mul, -1 << 32, -1 << 31, 0, api.ErrOverflow}, {api.Mul, 1 << 32, 1 << 32, 0, api.ErrOverflow}, {api.Mul, 1 << 62, 2, 0, api.ErrOverflow}, {api.Mul, 1 << 62, -2, least, 0},
		{api.Mul, 3037000499, 3037000499, 9223372030926249001, 0}, {api.Mul, 3037000500, 3037000500, 0, api.ErrOverflow}, {api.Mul, most, most, 0, api.ErrOverflow}, {api.Mul, least, least, 0, api.ErrOverflow}, {api.Mul, most, least, 0, api.ErrOverflow}, {api.Mul, 7, 1317624576693539401, most, 0}, {api.Mul, 1 << 33, 1 << 33, 0, api.ErrOverflow}, {api.Mul, -1 << 33, 1 << 31, 0, api.ErrOverflow},
		{api.Div, 7, 2, 3, 0}, {api.Div, -7, 2, -3, 0}, {api.Div, 7, -2, -3, 0}, {api.Div, -7, -2, 3, 0}, {api.Div, 1, 2, 0, 0}, {api.Div, -1, 2, 0, 0}, {api.Div, 0, 5, 0, 0},
		{api.Div, 7, 0, 0, api.ErrDivide}, {api.Div, 0, 0, 0, api.ErrDivide}, {api.Div, least, 0, 0, api.ErrDivide}, {api.Div, least, -1, 0, api.ErrOverflow}, {api.Div, least, 1, least, 0}, {api.Div, most, -1, -most, 0}, {api.Div, least + 1, -1, most, 0}, {api.Div, least, least, 1, 0}, {api.Div, most, least, 0, 0}, {api.Div, least, most, -1, 0}, {api.Div, -1, least, 0, 0},
	} {
		valueOf(t, c.op, number(c.a), number(c.b), api.Int, number(c.want), c.code)
	}
	for op := api.Add; op <= api.Div; op++ {
		for _, n := range []int64{0, 1, least, most} {
			valueOf(t, op, null, number(n), api.Int, null, api.OK)
			valueOf(t, op, number(n), null, api.Int, null, api.OK)
		}
		valueOf(t, op, null, null, api.Int, null, api.OK)
	}
}

// TestEqAndLess: of each type, neighbours in order; each value is the same as itself, and as no other.
func TestEqAndLess(t *testing.T) {
	orders := map[int][]api.Value{
		api.Int:  list(number(leastNumber), number(-256), number(-1), number(0), number(1), number(255), number(256), number(mostNumber)),
		api.Bool: list(truth(false), truth(true)),
		api.Text: list(text(""), text("\x00"), text("\x00\x00"), text("\x01"), text("Z"), text("a"), text("a\x00"), text("ab"), text("b"), text("\x7f"), text("\x80"), text("é"), text("\xff"), text(strings.Repeat("\xff", 39)), text(strings.Repeat("\xff", 40))),
	}
	for typ, order := range orders {
		for i, a := range order {
			for k, b := range order {
				valueOf(t, api.Eq, a, b, typ, truth(i == k), api.OK)
				valueOf(t, api.Less, a, b, typ, truth(i < k), api.OK)
			}
			for _, op := range []int{api.Eq, api.Less} {
				valueOf(t, op, a, null, typ, null, api.OK)
				valueOf(t, op, null, a, typ, null, api.OK)
			}
		}
		valueOf(t, api.Eq, null, null, typ, null, api.OK)
		valueOf(t, api.Less, null, null, typ, null, api.OK)
	}
}

// TestAndOrNotIsNull: all that there is.
func TestAndOrNotIsNull(t *testing.T) {
	f, n, y := truth(false), null, truth(true)
	for _, c := range []struct{ a, b, and, or api.Value }{
		{f, f, f, f}, {f, n, f, n}, {f, y, f, y},
		{n, f, f, n}, {n, n, n, n}, {n, y, n, y},
		{y, f, f, y}, {y, n, n, y}, {y, y, y, y},
	} {
		valueOf(t, api.And, c.a, c.b, api.Bool, c.and, api.OK)
		valueOf(t, api.Or, c.a, c.b, api.Bool, c.or, api.OK)
	}
	for _, c := range []struct{ a, not api.Value }{{f, y}, {n, n}, {y, f}} {
		for _, other := range []api.Value{f, n, y} {
			valueOf(t, api.Not, c.a, other, api.Bool, c.not, api.OK)
		}
	}
	for typ, values := range map[int][]api.Value{api.Int: list(number(0), number(-1)), api.Bool: list(f, y), api.Text: list(text(""), text("a"))} {
		for _, v := range values {
			valueOf(t, api.IsNull, v, null, typ, f, api.OK)
			valueOf(t, api.IsNull, null, v, typ, y, api.OK)
		}
	}
}

// TestColumnsAndConstants: of each type, NULL too; an expression of one part.
func TestColumnsAndConstants(t *testing.T) {
	for typ, values := range map[int][]api.Value{
		api.Int:  list(null, number(0), number(leastNumber), number(mostNumber)),
		api.Bool: list(null, truth(false), truth(true)),
		api.Text: list(null, text(""), text("\x00\xff"), longText(40)),
	} {
		for _, v := range values {
			s := stored(t, table("x", types(1, typ), row(number(1), v), row(null, null)))
			runs(t, s, "Col", plan(scan("x"), project(0, expr(col(1)))), row(v), row(null))
			runs(t, s, "Const", plan(scan("x"), project(0, expr(constant(typ, v)))), row(v), row(v))
		}
	}
}

// TestExpressionsOfManyParts: twelve of them, some of which nothing takes; L may be behind R.
func TestExpressionsOfManyParts(t *testing.T) {
	s := stored(t, table("x", types(1), row(number(4)), row(null), row(number(-3))))
	power := expr(col(0))
	for i := range 5 {
		power = append(power, part(api.Mul, i, i))
	}
	power[4], power[5] = part(api.Add, 3, 0), part(api.Sub, 0, 4)
	runs(t, s, "powers", plan(scan("x"), project(0, power)), row(number(-65536)), row(null), row(number(-6561)))
	twelve := expr(col(0), digit(2), part(api.Div, 0, 1), part(api.Mul, 2, 1), part(api.Eq, 3, 0), part(api.Not, 4, 0), part(api.IsNull, 0, 0), part(api.Or, 5, 6), digit(5), part(api.Less, 8, 0), part(api.Not, 9, 0), part(api.And, 10, 7))
	runs(t, s, "twelve parts", plan(scan("x"), project(0, twelve)), row(truth(false)), row(null), row(truth(true)))
}

// TestBatchesMeetEverywhere: an error in a row behind, in and ahead of the border of a batch.
func TestBatchesMeetEverywhere(t *testing.T) {
	for at := range 12 {
		x := table("x", types(1))
		for i := range 12 {
			x.Rows = append(x.Rows, row(number(int64(i-at))))
		}
		s := stored(t, x)
		p := plan(scan("x"), project(0, expr(digit(60), col(0), part(api.Div, 0, 1))))
		for batch := 1; batch <= 13; batch++ {
			o := api.Options{Batch: batch, Budget: 2}
			if got, f := s.Run(p, o); got != nil || f != atRow(api.ErrDivide, 1, at) {
				t.Errorf("P10: a division by 0 in row %d, batches of %d: %v, %+v", at, batch, got, f)
			}
		}
	}
}
