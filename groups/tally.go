package groups

import (
	"math/bits"

	"colrun/api"
	"colrun/value"
)

// tally is what is counted of a column in a group.
type tally struct {
	rows, held  int64 // how many rows, how many values that are not NULL
	sum         wide
	least, most api.Value
}

// kinds are the kinds of what can be told, by their numbers; the first one is not told by counting.
func (t *tally) kinds() [6]func() (api.Value, error) {
	return [6]func() (api.Value, error){
		api.CountAll: t.countAll,
		api.Count:    t.count,
		api.Total:    t.total,
		api.Least:    t.lowest,
		api.Most:     t.highest,
	}
}

func (t *tally) add(v api.Value) {
	t.rows++
	if v.Kind == api.Null {
		return
	}
	t.held++
	t.sum.add(v.N)
	if t.held == 1 || value.Compare(v, t.least) < 0 {
		t.least = v
	}
	if t.held == 1 || value.Compare(v, t.most) > 0 {
		t.most = v
	}
}

func (t *tally) countAll() (api.Value, error) {
	return number(t.rows), nil
}

func (t *tally) count() (api.Value, error) {
	return number(t.held), nil
}

func (t *tally) total() (api.Value, error) {
	if t.held == 0 {
		return api.Value{}, nil
	}
	if !t.sum.fits() {
		return api.Value{}, ErrOverflow
	}
	return number(int64(t.sum.low)), nil
}

func (t *tally) lowest() (api.Value, error) {
	return t.least, nil
}

func (t *tally) highest() (api.Value, error) {
	return t.most, nil
}

func number(n int64) api.Value {
	return api.Value{Kind: api.Int, N: n}
}

// wide is a number of 128 bits: a sum may leave 64 bits on the way and come back.
type wide struct {
	high int64
	low  uint64
}

func (w *wide) add(n int64) {
	low, carry := bits.Add64(w.low, uint64(n), 0)
	w.low = low
	w.high += n>>63 + int64(carry)
}

// fits tells whether the number fits into 64 bits: the upper ones are but its sign then.
func (w *wide) fits() bool {
	return w.high == int64(w.low)>>63
}
