// Package columns: rows, held column by column.
package columns

import (
	"errors"
	"iter"
	"slices"

	"colrun/api"
)

// ErrMany is the error of more rows than may be.
var ErrMany = errors.New("columns: more rows than may be")

// Rows are rows: for each column its values, in the order of the rows.
type Rows [][]api.Value

// New is no rows, of so many columns.
func New(width int) Rows {
	return make(Rows, width)
}

// Len is how many rows there are.
func (r Rows) Len() int {
	if len(r) == 0 {
		return 0
	}
	return len(r[0])
}

// Add puts copies of the others behind these.
func (r Rows) Add(others Rows) {
	for c, vs := range others {
		r[c] = append(r[c], vs...)
	}
}

// Cut is the rows from the number from on, up to the one ahead of to. It is no copy, but nothing can be put behind it in the same memory.
func (r Rows) Cut(from, to int) Rows {
	cut := New(len(r))
	for c, vs := range r {
		cut[c] = vs[from:to:to]
	}
	return cut
}

// Batches are the rows, so many at once, each batch with the number of its first row; the last one may have less.
func (r Rows) Batches(size int) iter.Seq2[int, Rows] {
	return func(yield func(int, Rows) bool) {
		n := r.Len()
		for from := 0; from < n; from += size {
			if !yield(from, r.Cut(from, min(from+size, n))) {
				return
			}
		}
	}
}

// Pick is copies of the rows with these numbers, in this order; for None a row of NULLs.
func (r Rows) Pick(numbers []int) Rows {
	picked := New(len(r))
	for c, vs := range r {
		picked[c] = make([]api.Value, len(numbers))
		for i, number := range numbers {
			if number != api.None {
				picked[c][i] = vs[number]
			}
		}
	}
	return picked
}

// Beside is each of these rows with the one of the others that has the same number behind it.
func (r Rows) Beside(others Rows) Rows {
	return slices.Concat(r, others)
}

// List is the rows one by one, each in memory of its own.
func (r Rows) List() []api.Row {
	list := make([]api.Row, r.Len())
	for i := range list {
		list[i] = make(api.Row, len(r))
		for c, vs := range r {
			list[i][c] = vs[i]
		}
	}
	return list
}
