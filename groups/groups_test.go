package groups_test

import (
	"errors"
	"math"
	"slices"
	"testing"

	"colrun/api"
	"colrun/columns"
	"colrun/groups"
)

func number(n int64) api.Value { return api.Value{Kind: api.Int, N: n} }

func numbers(ns ...int64) []api.Value {
	var vs []api.Value
	for _, n := range ns {
		vs = append(vs, number(n))
	}
	return vs
}

// TestGroup: groups in the order in which they first come, whatever the batches.
func TestGroup(t *testing.T) {
	rows := columns.Rows{numbers(7, 3, 7, 9, 3, 7), numbers(1, 2, 3, 4, 5, 6)}
	keys := []api.Key{{Col: 1, Fn: api.Total}, {Col: 0}, {Col: 99, Fn: api.CountAll}, {Col: 1, Fn: api.Most}}
	want := columns.Rows{numbers(10, 7, 4), numbers(7, 3, 9), numbers(3, 2, 1), numbers(6, 5, 4)}
	for batch := 1; batch < 8; batch++ {
		got, err := groups.Group(rows, keys, batch)
		if err != nil || !slices.EqualFunc(got, want, slices.Equal) {
			t.Errorf("by batches of %d: %+v, %v", batch, got, err)
		}
	}
}

// TestErrorsKnowTheirPlaces: the group and the column, through whatever wraps them.
func TestErrorsKnowTheirPlaces(t *testing.T) {
	rows := columns.Rows{numbers(1, 2, 2), numbers(math.MaxInt64, math.MinInt64, -1)}
	got, err := groups.Group(rows, []api.Key{{Col: 0}, {Col: 1, Fn: api.Least}, {Col: 1, Fn: api.Total}}, 2)
	wrapped := errors.Join(errors.New("something else"), err)
	var e *groups.Error
	if got != nil || !errors.Is(wrapped, groups.ErrOverflow) || !errors.As(wrapped, &e) || e.Group != 1 || e.Column != 2 || e.Error() == "" {
		t.Errorf("%v, %v", got, err)
	}
}
