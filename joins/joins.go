// Package joins: rows beside the rows that fit them.
package joins

import (
	"iter"

	"colrun/api"
	"colrun/columns"
)

// Join is the rows of a Join of such a kind, by keys of which there are columns on both sides: columns.ErrMany. The rows are worked batch by batch. The filter's bits and the seed change nothing in what comes out.
func Join(left, right columns.Rows, kind int, keys []api.Key, o api.Options) (columns.Rows, error) {
	j := &joining{left: left, right: right, keys: keys, options: o, filter: newFilter(o.Bloom), buckets: map[uint64][]int{}}
	own, other := sides(keys)
	j.build(other)
	take := j.kinds()[kind]
	for row, key := range j.hashed(left, own) {
		take(row, j.fitting(row, key))
		if len(j.lefts) > api.MaxResult {
			return nil, columns.ErrMany
		}
	}
	rows := left.Pick(j.lefts)
	if kind == api.Inner || kind == api.Left {
		rows = rows.Beside(right.Pick(j.rights))
	}
	return rows, nil
}

type joining struct {
	left, right columns.Rows
	keys        []api.Key
	options     api.Options
	filter      *filter
	buckets     map[uint64][]int // by hash: the rows of the right side, in order
	lefts       []int            // what comes out: the numbers of the rows of the left side,
	rights      []int            // and of those beside them, None for NULLs
}

// kinds are the kinds of joins, by their numbers; each takes a row of the left side and the rows of the right side that fit it, in order.
func (j *joining) kinds() [4]func(row int, fits iter.Seq[int]) {
	return [4]func(row int, fits iter.Seq[int]){
		api.Inner: j.inner,
		api.Left:  j.outer,
		api.Semi:  j.semi,
		api.Anti:  j.anti,
	}
}

func (j *joining) inner(row int, fits iter.Seq[int]) {
	for other := range fits {
		j.lefts = append(j.lefts, row)
		j.rights = append(j.rights, other)
	}
}

func (j *joining) outer(row int, fits iter.Seq[int]) {
	before := len(j.lefts)
	j.inner(row, fits)
	if len(j.lefts) == before {
		j.lefts = append(j.lefts, row)
		j.rights = append(j.rights, api.None)
	}
}

func (j *joining) semi(row int, fits iter.Seq[int]) {
	if isAny(fits) {
		j.lefts = append(j.lefts, row)
	}
}

func (j *joining) anti(row int, fits iter.Seq[int]) {
	if !isAny(fits) {
		j.lefts = append(j.lefts, row)
	}
}

func isAny(fits iter.Seq[int]) bool {
	for range fits {
		return true
	}
	return false
}

// sides are the columns of the keys on the left side, and on the right side.
func sides(keys []api.Key) (left []int, right []int) {
	for _, k := range keys {
		left = append(left, k.Col)
		right = append(right, k.Other)
	}
	return left, right
}

// build lays the rows of the right side into buckets; those with a NULL fit none, and are left out.
func (j *joining) build(numbers []int) {
	for row, key := range j.hashed(j.right, numbers) {
		if !key.null {
			j.filter.add(key.hash)
			j.buckets[key.hash] = append(j.buckets[key.hash], row)
		}
	}
}

// hashed is each row's number with what its key, in the columns with these numbers, is found by.
func (j *joining) hashed(rows columns.Rows, numbers []int) iter.Seq2[int, hashed] {
	return func(yield func(int, hashed) bool) {
		for first, batch := range rows.Batches(j.options.Batch) {
			for i, key := range hashes(batch, numbers, uint64(j.options.Seed)) {
				if !yield(first+i, key) {
					return
				}
			}
		}
	}
}

// fitting is the rows of the right side that fit a row of the left side. The same hash does not say that they do.
func (j *joining) fitting(row int, key hashed) iter.Seq[int] {
	return func(yield func(int) bool) {
		if key.null || !j.filter.mayHave(key.hash) {
			return
		}
		for _, other := range j.buckets[key.hash] {
			if j.fit(row, other) && !yield(other) {
				return
			}
		}
	}
}

// fit tells whether two rows without a NULL in their keys fit.
func (j *joining) fit(row, other int) bool {
	for _, k := range j.keys {
		if j.left[k.Col][row] != j.right[k.Other][other] {
			return false
		}
	}
	return true
}
