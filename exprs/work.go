package exprs

import (
	"strings"

	"colrun/api"
	"colrun/columns"
)

// Work is expressions that are worked on batches of rows, one batch after the other.
type Work struct {
	exprs [][]step
	batch columns.Rows
	first int           // the number of the batch's first row
	n     int           // how many rows of the batch are worked: those ahead of the first one that is in error
	parts [][]api.Value // of the parts so far the values, for at least n rows
	err   error         // of the row n
}

// step is a part, and the method that works such a one on the batch.
type step struct {
	part api.Part
	work func(api.Part) []api.Value
}

// New makes ready what are expressions over the columns of the rows that will come.
func New(exprs [][]api.Part) *Work {
	w := &Work{}
	kinds := w.kinds()
	for _, parts := range exprs {
		var steps []step
		for _, p := range parts {
			steps = append(steps, step{part: p, work: kinds[p.Op]})
		}
		w.exprs = append(w.exprs, steps)
	}
	return w
}

// On is the expressions' values, a column of each, on a batch of rows whose first one has the number first: ErrDivide or ErrOverflow, of the first row that is in error, in it the first expression, in it the first part.
func (w *Work) On(batch columns.Rows, first int) (columns.Rows, error) {
	w.batch, w.first, w.n, w.err = batch, first, batch.Len(), nil
	var values columns.Rows
	for _, steps := range w.exprs {
		values = append(values, w.expression(steps))
	}
	if w.err != nil {
		return nil, w.err
	}
	return values, nil
}

func (w *Work) expression(steps []step) []api.Value {
	w.parts = nil
	for _, s := range steps {
		w.parts = append(w.parts, s.work(s.part))
	}
	return w.parts[len(w.parts)-1]
}

// stop notes that the part that is worked now is in error on a row of the batch. What comes behind is worked on the rows ahead of it alone, so that an error that comes up there goes before this one, and none else does.
func (w *Work) stop(row int, why error) {
	w.n = row
	w.err = &Error{Row: w.first + row, Part: len(w.parts), Why: why}
}

// kinds are the kinds of parts, by their numbers; each tells the values of such a part on the batch.
func (w *Work) kinds() [12]func(api.Part) []api.Value {
	return [12]func(api.Part) []api.Value{
		api.Col:    w.column,
		api.Const:  w.constant,
		api.Add:    w.add,
		api.Sub:    w.sub,
		api.Mul:    w.mul,
		api.Div:    w.div,
		api.Eq:     w.eq,
		api.Less:   w.less,
		api.And:    w.and,
		api.Or:     w.or,
		api.Not:    w.not,
		api.IsNull: w.isNull,
	}
}

func (w *Work) column(p api.Part) []api.Value {
	return w.batch[p.Col]
}

func (w *Work) constant(p api.Part) []api.Value {
	v := p.V
	v.S = strings.Clone(v.S) // it may come out of the run, and the plan is not to be kept by that
	vs := make([]api.Value, w.n)
	for i := range vs {
		vs[i] = v
	}
	return vs
}

func (w *Work) add(p api.Part) []api.Value { return w.known(p, sum) }

func (w *Work) sub(p api.Part) []api.Value { return w.known(p, difference) }

func (w *Work) mul(p api.Part) []api.Value { return w.known(p, product) }

func (w *Work) div(p api.Part) []api.Value { return w.known(p, quotient) }

func (w *Work) eq(p api.Part) []api.Value { return w.known(p, isSame) }

func (w *Work) less(p api.Part) []api.Value { return w.known(p, isBelow) }

func (w *Work) and(p api.Part) []api.Value { return w.each(p, areBoth) }

func (w *Work) or(p api.Part) []api.Value { return w.each(p, isEither) }

func (w *Work) not(p api.Part) []api.Value { return w.known(twice(p), isNot) }

func (w *Work) isNull(p api.Part) []api.Value { return w.each(twice(p), isNone) }

// twice is the part so that it takes L for both: R says nothing where one alone is taken.
func twice(p api.Part) api.Part {
	p.R = p.L
	return p
}

// each works the two values that p takes, row by row, up to the first row that is in error.
func (w *Work) each(p api.Part, of func(a, b api.Value) (api.Value, error)) []api.Value {
	left, right := w.parts[p.L], w.parts[p.R]
	vs := make([]api.Value, w.n)
	for i := range vs {
		v, err := of(left[i], right[i])
		if err != nil {
			w.stop(i, err)
			break
		}
		vs[i] = v
	}
	return vs
}

// known is each where neither value is NULL, and else NULL.
func (w *Work) known(p api.Part, of func(a, b api.Value) (api.Value, error)) []api.Value {
	return w.each(p, func(a, b api.Value) (api.Value, error) {
		if a.Kind == api.Null || b.Kind == api.Null {
			return api.Value{}, nil
		}
		return of(a, b)
	})
}
