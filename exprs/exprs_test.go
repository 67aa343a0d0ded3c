package exprs_test

import (
	"errors"
	"math"
	"slices"
	"testing"

	"colrun/api"
	"colrun/columns"
	"colrun/exprs"
)

func column(c int) api.Part { return api.Part{Op: api.Col, Col: c} }

func null(typ int) api.Part { return api.Part{Op: api.Const, Col: typ} }

func part(op, l, r int) api.Part { return api.Part{Op: op, L: l, R: r} }

func TestType(t *testing.T) {
	columns := []int{api.Int, api.Bool, api.Text}
	for _, c := range []struct {
		parts []api.Part
		want  int
	}{
		{[]api.Part{column(2)}, api.Text},
		{[]api.Part{null(api.Text)}, api.Text},
		{[]api.Part{column(0), null(api.Int), part(api.Mul, 0, 1)}, api.Int},
		{[]api.Part{column(2), part(api.Less, 0, 0)}, api.Bool},
		{[]api.Part{column(1), null(api.Bool), part(api.Or, 1, 0), part(api.Not, 2, 9)}, api.Bool},
		{[]api.Part{column(2), part(api.IsNull, 0, -1), column(0)}, api.Int},
	} {
		before := slices.Clone(c.parts)
		typ, err := exprs.Type(c.parts, columns)
		if typ != c.want || err != nil {
			t.Errorf("Type(%+v) = %d, %v, want %d", c.parts, typ, err, c.want)
		}
		if !slices.Equal(c.parts, before) || !slices.Equal(columns, []int{1, 2, 3}) {
			t.Errorf("Type left %+v over %v", c.parts, columns)
		}
	}
}

// TestErrorsKnowThePart: the first part that is wrong, through whatever wraps it; none, if it is the number of the parts.
func TestErrorsKnowThePart(t *testing.T) {
	for _, c := range []struct {
		parts []api.Part
		part  int
	}{
		{nil, api.None},
		{make([]api.Part, 13), api.None},
		{slices.Repeat([]api.Part{column(9)}, 13), api.None},
		{[]api.Part{column(1)}, 0},
		{[]api.Part{column(0), column(0), part(api.And, 0, 1)}, 2},
		{[]api.Part{column(0), part(api.Add, 1, 0), column(8), part(99, 0, 0)}, 1},
		{append(make([]api.Part, 11), null(0)), 11},
	} {
		typ, err := exprs.Type(c.parts, []int{api.Int})
		wrapped := errors.Join(errors.New("something else"), err)
		var e *exprs.Error
		if typ != 0 || !errors.Is(wrapped, exprs.ErrExpr) || !errors.As(wrapped, &e) || e.Row != api.None || e.Part != c.part || e.Error() == "" {
			t.Errorf("Type(%+v) = %d, %v, want part %d", c.parts, typ, err, c.part)
		}
	}
}

func constant(n int64) api.Part {
	return api.Part{Op: api.Const, Col: api.Int, V: api.Value{Kind: api.Int, N: n}}
}

// TestOn works one batch after the other.
func TestOn(t *testing.T) {
	w := exprs.New([][]api.Part{{column(0), constant(2), part(api.Mul, 0, 1)}, {column(0), part(api.IsNull, 0, 9)}})
	for first, n := range []int64{7, -1, 0} {
		batch := columns.Rows{{{Kind: api.Int, N: n}, {}}}
		got, err := w.On(batch, first)
		want := columns.Rows{{{Kind: api.Int, N: 2 * n}, {}}, {{Kind: api.Bool}, {Kind: api.Bool, N: 1}}}
		if err != nil || !slices.EqualFunc(got, want, slices.Equal) {
			t.Errorf("%d: %+v, %v", n, got, err)
		}
	}
}

// TestErrorsKnowTheRow: the number of a row is not the one in the batch; an error is forgotten in the next batch.
func TestErrorsKnowTheRow(t *testing.T) {
	w := exprs.New([][]api.Part{{column(0)}, {constant(math.MaxInt64), column(0), part(api.Add, 0, 1), part(api.Div, 0, 1)}})
	numbers := func(ns ...int64) columns.Rows {
		rows := columns.New(1)
		for _, n := range ns {
			rows[0] = append(rows[0], api.Value{Kind: api.Int, N: n})
		}
		return rows
	}
	for _, c := range []struct {
		batch     columns.Rows
		why       error
		row, part int
	}{
		{numbers(-1, -1, 5, 0), exprs.ErrOverflow, 102, 2},
		{numbers(-1, -7), nil, 0, 0},
		{numbers(-1, 0, 5), exprs.ErrDivide, 101, 3},
		{numbers(0, 5), exprs.ErrDivide, 100, 3},
		{numbers(5, 0), exprs.ErrOverflow, 100, 2},
	} {
		got, err := w.On(c.batch, 100)
		if c.why == nil {
			if err != nil || got.Len() != c.batch.Len() {
				t.Errorf("%+v: %v, %v", c.batch, got, err)
			}
			continue
		}
		wrapped := errors.Join(errors.New("something else"), err)
		var e *exprs.Error
		if got != nil || !errors.Is(wrapped, c.why) || !errors.As(wrapped, &e) || e.Row != c.row || e.Part != c.part || e.Error() == "" {
			t.Errorf("%+v: %v, %v, want %v in row %d, part %d", c.batch, got, err, c.why, c.row, c.part)
		}
	}
}
