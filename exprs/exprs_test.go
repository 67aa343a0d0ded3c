package exprs_test

import (
	"errors"
	"slices"
	"testing"

	"colrun/api"
	"colrun/exprs"
)

func column(c int) api.Part { return api.Part{Op: api.Col, Col: c} }

func null(typ int) api.Part { return api.Part{Op: api.Const, Col: typ} }

func part(op, l, r int) api.Part { return api.Part{Op: op, L: l, R: r} }

func TestType(t *testing.T) {
	columns := []int{api.Int, api.Bool, api.Text}
	for _, c := range []struct {
		parts []api.Part
		want  int
	}{
		{[]api.Part{column(2)}, api.Text},
		{[]api.Part{null(api.Text)}, api.Text},
		{[]api.Part{column(0), null(api.Int), part(api.Mul, 0, 1)}, api.Int},
		{[]api.Part{column(2), part(api.Less, 0, 0)}, api.Bool},
		{[]api.Part{column(1), null(api.Bool), part(api.Or, 1, 0), part(api.Not, 2, 9)}, api.Bool},
		{[]api.Part{column(2), part(api.IsNull, 0, -1), column(0)}, api.Int},
	} {
		before := slices.Clone(c.parts)
		typ, err := exprs.Type(c.parts, columns)
		if typ != c.want || err != nil {
			t.Errorf("Type(%+v) = %d, %v, want %d", c.parts, typ, err, c.want)
		}
		if !slices.Equal(c.parts, before) || !slices.Equal(columns, []int{1, 2, 3}) {
			t.Errorf("Type left %+v over %v", c.parts, columns)
		}
	}
}

// TestErrorsKnowThePart: the first part that is wrong, through whatever wraps it; none, if it is the number of the parts.
func TestErrorsKnowThePart(t *testing.T) {
	for _, c := range []struct {
		parts []api.Part
		part  int
	}{
		{nil, api.None},
		{make([]api.Part, 13), api.None},
		{slices.Repeat([]api.Part{column(9)}, 13), api.None},
		{[]api.Part{column(1)}, 0},
		{[]api.Part{column(0), column(0), part(api.And, 0, 1)}, 2},
		{[]api.Part{column(0), part(api.Add, 1, 0), column(8), part(99, 0, 0)}, 1},
		{append(make([]api.Part, 11), null(0)), 11},
	} {
		typ, err := exprs.Type(c.parts, []int{api.Int})
		wrapped := errors.Join(errors.New("something else"), err)
		var e *exprs.Error
		if typ != 0 || !errors.Is(wrapped, exprs.ErrExpr) || !errors.As(wrapped, &e) || e.Part != c.part || e.Error() == "" {
			t.Errorf("Type(%+v) = %d, %v, want part %d", c.parts, typ, err, c.part)
		}
	}
}
