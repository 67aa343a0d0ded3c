// Package work: plans that are worked, node by node.
package work

import (
	"errors"

	"colrun/api"
	"colrun/columns"
	"colrun/disk"
	"colrun/plans"
	"colrun/tables"
)

// ErrArg is the error of options beyond their bounds.
var ErrArg = errors.New("work: options that may not be")

// Run is the rows of a plan's last node: as plans.Schemas; ErrArg; or what comes up in the first node in which something does, with the node.
func Run(p api.Plan, o api.Options, t *tables.Set, d *disk.Disk) (columns.Rows, error) {
	schemas, err := plans.Schemas(p, t.Types)
	if err != nil {
		return nil, err
	}
	if !areOptions(o) {
		return nil, ErrArg
	}
	r := &running{options: o, tables: t, disk: d, schemas: schemas}
	for i, s := range r.steps(p) {
		rows, err := s.work(s.node)
		if err != nil {
			return nil, &plans.Error{Node: i, Err: err}
		}
		r.done = append(r.done, rows)
	}
	return r.take(len(r.done) - 1), nil
}

func areOptions(o api.Options) bool {
	return o.Batch >= 1 && o.Batch <= api.MaxBatch &&
		o.Budget >= 2 && o.Budget <= api.MaxBudget &&
		o.Bloom >= 0 && o.Bloom <= api.MaxBloom
}

// running is the nodes of a plan, worked one after the other.
type running struct {
	options api.Options
	tables  *tables.Set
	disk    *disk.Disk
	schemas [][]int
	done    []columns.Rows // of the nodes so far
}

// step is a node, and the method that works such a one.
type step struct {
	node api.Node
	work func(api.Node) (columns.Rows, error)
}

func (r *running) steps(p api.Plan) []step {
	kinds := r.kinds()
	var list []step
	for _, n := range p.Nodes {
		list = append(list, step{node: n, work: kinds[n.Op]})
	}
	return list
}

// take is the rows of an earlier node. Each is taken once, so they need not be kept.
func (r *running) take(i int) columns.Rows {
	rows := r.done[i]
	r.done[i] = nil
	return rows
}
