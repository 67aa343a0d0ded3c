// Package sorts: rows in order of some of their columns, with no more than so many of them in memory.
package sorts

import (
	"slices"

	"colrun/api"
	"colrun/columns"
	"colrun/disk"
	"colrun/value"
)

// Sort is the rows, whose columns have these types, in order of the keys; those that are the same in all keys stay in their order. It holds at most budget rows: if there are more, runs of them lie on the disk meanwhile. The disk's error; whatever comes, no page is in use behind it that was not before.
func Sort(rows columns.Rows, types []int, keys []api.Key, budget int, d *disk.Disk) (columns.Rows, error) {
	s := &sorting{types: types, keys: keys, budget: budget, disk: d}
	if rows.Len() <= budget {
		return s.ordered(rows), nil
	}
	defer s.release()
	runs, err := s.fewRuns(rows)
	if err != nil {
		return nil, err
	}
	out := columns.New(len(types))
	err = s.merge(runs, func(row columns.Rows) error {
		out.Add(row)
		return nil
	})
	if err != nil {
		return nil, err
	}
	return out, nil
}

type sorting struct {
	types  []int
	keys   []api.Key
	budget int
	disk   *disk.Disk
	block  int    // how many rows of a run are read at once
	made   []*run // all runs, also those that are merged already
}

// ordered is rows in order.
func (s *sorting) ordered(rows columns.Rows) columns.Rows {
	numbers := make([]int, rows.Len())
	for i := range numbers {
		numbers[i] = i
	}
	slices.SortStableFunc(numbers, func(a, b int) int {
		return s.compare(rows, a, rows, b)
	})
	return rows.Pick(numbers)
}

// compare tells how a row of some rows and one of others are in order.
func (s *sorting) compare(rows columns.Rows, i int, others columns.Rows, k int) int {
	for _, key := range s.keys {
		if order := inOrder(rows[key.Col][i], others[key.Col][k], key.Down); order != 0 {
			return order
		}
	}
	return 0
}

// inOrder tells how two values are in order: NULL comes first, down or not.
func inOrder(a, b api.Value, down bool) int {
	switch {
	case a == b:
		return 0
	case a.Kind == api.Null:
		return -1
	case b.Kind == api.Null:
		return 1
	case down:
		return value.Compare(b, a)
	}
	return value.Compare(a, b)
}

// fewRuns writes the rows as runs, so few that a block of each can be held.
func (s *sorting) fewRuns(rows columns.Rows) ([]*run, error) {
	runs, err := s.cut(rows)
	for err == nil && len(runs) > s.budget {
		runs, err = s.narrow(runs)
	}
	return runs, err
}

// cut writes the rows as runs, each of as many as can be held to be sorted.
func (s *sorting) cut(rows columns.Rows) ([]*run, error) {
	count := (rows.Len() + s.budget - 1) / s.budget
	// So that a block of each run can be held when they are merged; one row, if there are too many of them.
	s.block = min(max(s.budget/count, 1), api.MaxGroup)
	var runs []*run
	for _, batch := range rows.Batches(s.budget) {
		r := s.add(len(runs))
		if err := s.write(r, s.ordered(batch)); err != nil {
			return nil, err
		}
		runs = append(runs, r)
	}
	return runs, nil
}

// add makes a run without rows.
func (s *sorting) add(place int) *run {
	r := &run{place: place}
	s.made = append(s.made, r)
	return r
}

// narrow merges neighbours, as many as a row of each can be held, to one run. (Blocks are of one row then.)
func (s *sorting) narrow(runs []*run) ([]*run, error) {
	var merged []*run
	for some := range slices.Chunk(runs, s.budget) {
		r := s.add(len(merged))
		err := s.merge(some, func(row columns.Rows) error {
			return s.write(r, row)
		})
		if err != nil {
			return nil, err
		}
		merged = append(merged, r)
	}
	return merged, nil
}

// merge gives the rows of all these runs to take, in order, one by one.
func (s *sorting) merge(runs []*run, take func(row columns.Rows) error) error {
	h := &heap{ahead: s.ahead}
	for _, r := range runs {
		if _, err := s.next(r); err != nil {
			return err
		}
		h.push(r)
	}
	for len(h.runs) > 0 {
		r := h.runs[0]
		if err := take(r.held.Cut(0, 1)); err != nil {
			return err
		}
		more, err := s.next(r)
		if err != nil {
			return err
		}
		if more {
			h.sink()
		} else {
			h.pop()
		}
	}
	return nil
}

// ahead tells whether the row at which one run stands comes ahead of the other one's.
func (s *sorting) ahead(a, b *run) bool {
	if order := s.compare(a.held, 0, b.held, 0); order != 0 {
		return order < 0
	}
	return a.place < b.place
}
