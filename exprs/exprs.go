// Package exprs: expressions over the columns of a row.
package exprs

import (
	"colrun/api"
	"colrun/value"
)

// Type is the type of an expression's value, on rows whose columns have these types: ErrExpr, with the part.
func Type(parts []api.Part, columns []int) (int, error) {
	if len(parts) < 1 || len(parts) > api.MaxParts {
		return 0, &Error{Row: api.None, Part: api.None, Why: ErrExpr}
	}
	t := &typing{columns: columns}
	for i, p := range parts {
		typ, ok := t.part(p)
		if !ok {
			return 0, &Error{Row: api.None, Part: i, Why: ErrExpr}
		}
		t.earlier = append(t.earlier, typ)
	}
	return t.earlier[len(t.earlier)-1], nil
}

// typing tells the types of an expression's parts, one after the other.
type typing struct {
	columns []int
	earlier []int // the types of the parts so far: a part that is not among them is no earlier one
}

// kinds are the kinds of parts, by their numbers; each tells the type of such a part's value, or false, if it cannot be so.
func (t *typing) kinds() [12]func(api.Part) (int, bool) {
	return [12]func(api.Part) (int, bool){
		api.Col:    t.column,
		api.Const:  t.constant,
		api.Add:    t.ofNumbers,
		api.Sub:    t.ofNumbers,
		api.Mul:    t.ofNumbers,
		api.Div:    t.ofNumbers,
		api.Eq:     t.ofOneType,
		api.Less:   t.ofOneType,
		api.And:    t.ofTruths,
		api.Or:     t.ofTruths,
		api.Not:    t.ofTruth,
		api.IsNull: t.ofAny,
	}
}

func (t *typing) part(p api.Part) (int, bool) {
	kinds := t.kinds()
	if p.Op < 0 || p.Op >= len(kinds) {
		return 0, false
	}
	return kinds[p.Op](p)
}

func (t *typing) column(p api.Part) (int, bool) {
	return value.TypeAt(t.columns, p.Col)
}

// constant asks for the type apart from the value: NULL is of whatever number stands there.
func (t *typing) constant(p api.Part) (int, bool) {
	return p.Col, value.IsType(p.Col) && value.IsOf(p.V, p.Col)
}

func (t *typing) ofNumbers(p api.Part) (int, bool) {
	typ, ok := t.shared(p)
	return api.Int, ok && typ == api.Int
}

func (t *typing) ofOneType(p api.Part) (int, bool) {
	_, ok := t.shared(p)
	return api.Bool, ok
}

func (t *typing) ofTruths(p api.Part) (int, bool) {
	typ, ok := t.shared(p)
	return api.Bool, ok && typ == api.Bool
}

func (t *typing) ofTruth(p api.Part) (int, bool) {
	typ, ok := value.TypeAt(t.earlier, p.L)
	return api.Bool, ok && typ == api.Bool
}

func (t *typing) ofAny(p api.Part) (int, bool) {
	_, ok := value.TypeAt(t.earlier, p.L)
	return api.Bool, ok
}

// shared is the type that the two parts have that p takes; false, if they have not one, or are not both earlier ones.
func (t *typing) shared(p api.Part) (int, bool) {
	left, isLeft := value.TypeAt(t.earlier, p.L)
	right, isRight := value.TypeAt(t.earlier, p.R)
	return left, isLeft && isRight && left == right
}
