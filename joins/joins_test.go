package joins

import (
	"errors"
	"math"
	"slices"
	"testing"

	"colrun/api"
	"colrun/columns"
)

func numbers(ns ...int64) []api.Value {
	var vs []api.Value
	for _, n := range ns {
		vs = append(vs, api.Value{Kind: api.Int, N: n})
	}
	return vs
}

// TestFilterNeverLosesAKey: what was added may be there, with any number of bits; with many bits for few keys most others may not.
func TestFilterNeverLosesAKey(t *testing.T) {
	for _, size := range []int{0, 1, 2, 63, 64, 65, 1000, 4096} {
		f := newFilter(size)
		keys := hashes(columns.Rows{numbers(1, 2, 3, 4, 5, 6, 7, 8, 9, math.MaxInt64, math.MinInt64)}, []int{0}, uint64(size))
		for i, key := range keys {
			f.add(key.hash)
			for _, earlier := range keys[:i+1] {
				if !f.mayHave(earlier.hash) {
					t.Errorf("%d bits: the key of hash %x is lost", size, earlier.hash)
				}
			}
		}
		told := 0
		for n := range int64(1000) {
			if !f.mayHave(hashes(columns.Rows{numbers(100 + n)}, []int{0}, uint64(size))[0].hash) {
				told++
			}
		}
		if size == 0 && told > 0 || size == 4096 && told < 900 {
			t.Errorf("%d bits: %d of 1000 other keys are told", size, told)
		}
	}
}

// TestHashes: the same for the same values, others for others, for another seed; NULL in one column is noted.
func TestHashes(t *testing.T) {
	texts := []api.Value{{Kind: api.Text, S: "a"}, {Kind: api.Text, S: "ab"}, {Kind: api.Text, S: ""}, {}, {Kind: api.Text, S: "\x00"}, {Kind: api.Text, S: "a"}}
	rows := columns.Rows{numbers(1, 1, 1, 1, 1, 1), texts}
	got := hashes(rows, []int{0, 1}, 5)
	other := hashes(rows, []int{0, 1}, 6)
	for i := range got {
		if got[i].null != (i == 3) || got[i].hash == other[i].hash {
			t.Errorf("row %d: %+v, with another seed %+v", i, got[i], other[i])
		}
		for k := range got {
			if same := texts[i] == texts[k]; got[i] == got[k] != same {
				t.Errorf("rows %d and %d: %+v, %+v", i, k, got[i], got[k])
			}
		}
	}
}

// TestTheSameHashIsNotEnough lays rows of another key into one bucket, as if their hashes were the same.
func TestTheSameHashIsNotEnough(t *testing.T) {
	j := &joining{left: columns.Rows{numbers(5)}, right: columns.Rows{numbers(6, 5, 7, 5)}, keys: []api.Key{{}}, filter: newFilter(0), buckets: map[uint64][]int{77: {0, 1, 2, 3}}}
	if fits := slices.Collect(j.fitting(0, hashed{hash: 77})); !slices.Equal(fits, []int{1, 3}) {
		t.Errorf("%v fit", fits)
	}
}

func TestJoin(t *testing.T) {
	left, right := columns.Rows{numbers(1, 2, 1)}, columns.Rows{numbers(10, 11, 12), numbers(1, 3, 1)}
	keys := []api.Key{{Col: 0, Other: 1}}
	for kind, want := range []columns.Rows{
		{numbers(1, 1, 1, 1), numbers(10, 12, 10, 12), numbers(1, 1, 1, 1)},
		{numbers(1, 1, 2, 1, 1), {numbers(10)[0], numbers(12)[0], {}, numbers(10)[0], numbers(12)[0]}, {numbers(1)[0], numbers(1)[0], {}, numbers(1)[0], numbers(1)[0]}},
		{numbers(1, 1)},
		{numbers(2)},
	} {
		for batch := 1; batch < 5; batch++ {
			got, err := Join(left, right, kind, keys, api.Options{Batch: batch, Bloom: 7 * batch, Seed: batch})
			if err != nil || !slices.EqualFunc(got, want, slices.Equal) {
				t.Errorf("kind %d, batches of %d: %+v, %v", kind, batch, got, err)
			}
		}
	}
	many := columns.Rows{numbers(make([]int64, 50)...)}
	if got, err := Join(many, many, api.Inner, []api.Key{{}}, api.Options{Batch: 9}); got != nil || !errors.Is(err, columns.ErrMany) {
		t.Errorf("2500 rows: %d, %v", got.Len(), err)
	}
}
