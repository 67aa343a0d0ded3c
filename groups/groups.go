// Package groups: rows that are the same in some columns, and what is told of them.
package groups

import (
	"slices"

	"colrun/api"
	"colrun/columns"
)

// Group is a row for each group of the rows, in the order in which they first come: ErrOverflow, with the first group and in it the first column. The rows are worked batch by batch.
func Group(rows columns.Rows, keys []api.Key, batch int) (columns.Rows, error) {
	g := &grouping{keys: keys, numbers: map[mark]int{}}
	if !slices.ContainsFunc(keys, isMark) {
		g.number(mark{}) // all rows are one group then, and it is there without rows too
	}
	for _, b := range rows.Batches(batch) {
		g.take(b)
	}
	return g.tell()
}

// mark is what the rows of a group have in common: the values in the columns of the keys of Fn 0; for the other keys nothing stands there.
type mark [api.MaxKeys]api.Value

func isMark(k api.Key) bool {
	return k.Fn == api.Value0
}

type grouping struct {
	keys    []api.Key
	numbers map[mark]int // by these a row's group is found, but never told: a map has no order
	groups  []*group     // by their numbers
}

// group is what is known of a group so far.
type group struct {
	mark    mark
	tallies [api.MaxKeys]tally // by key
}

// number is the number of the group with this mark, which is there from then on.
func (g *grouping) number(m mark) int {
	number, ok := g.numbers[m]
	if !ok {
		number = len(g.groups)
		g.numbers[m] = number
		g.groups = append(g.groups, &group{mark: m})
	}
	return number
}

// take counts a batch of rows, column by column.
func (g *grouping) take(batch columns.Rows) {
	numbers := g.belong(batch)
	for k, key := range g.keys {
		if key.Fn == api.CountAll {
			key.Col = 0 // of no column: Col says nothing, and any one has a value for each row
		}
		for i, v := range batch[key.Col] {
			g.groups[numbers[i]].tallies[k].add(v)
		}
	}
}

// belong is for each row of a batch the number of its group.
func (g *grouping) belong(batch columns.Rows) []int {
	marks := make([]mark, batch.Len())
	for k, key := range g.keys {
		if !isMark(key) {
			continue
		}
		for i, v := range batch[key.Col] {
			marks[i][k] = v
		}
	}
	numbers := make([]int, len(marks))
	for i, m := range marks {
		numbers[i] = g.number(m)
	}
	return numbers
}

// tell is the rows that are told of the groups.
func (g *grouping) tell() (columns.Rows, error) {
	rows := columns.New(len(g.keys))
	for number, group := range g.groups {
		for k, key := range g.keys {
			v, err := group.told(k, key.Fn)
			if err != nil {
				return nil, &Error{Group: number, Column: k, Why: err}
			}
			rows[k] = append(rows[k], v)
		}
	}
	return rows, nil
}

// told is what is told of the group for a key.
func (g *group) told(k int, fn int) (api.Value, error) {
	if fn == api.Value0 {
		return g.mark[k], nil
	}
	return g.tallies[k].kinds()[fn]()
}
