package work

import (
	"colrun/api"
	"colrun/columns"
	"colrun/exprs"
	"colrun/groups"
	"colrun/joins"
	"colrun/sorts"
)

// kinds are the kinds of nodes, by their numbers; each tells the rows of such a node.
func (r *running) kinds() [8]func(api.Node) (columns.Rows, error) {
	return [8]func(api.Node) (columns.Rows, error){
		api.Scan:    r.scan,
		api.Filter:  r.filter,
		api.Project: r.project,
		api.Join:    r.join,
		api.Group:   r.group,
		api.Sort:    r.sort,
		api.Limit:   r.limit,
		api.Union:   r.union,
	}
}

func (r *running) scan(n api.Node) (columns.Rows, error) {
	return r.tables.Rows(n.Table)
}

func (r *running) filter(n api.Node) (columns.Rows, error) {
	rows := r.take(n.L)
	test := exprs.New(n.Exprs[:1])
	var kept []int
	for first, batch := range rows.Batches(r.options.Batch) {
		values, err := test.On(batch, first)
		if err != nil {
			return nil, err
		}
		for i, v := range values[0] {
			if v.N == 1 { // of truth values TRUE alone has it
				kept = append(kept, first+i)
			}
		}
	}
	return rows.Pick(kept), nil
}

func (r *running) project(n api.Node) (columns.Rows, error) {
	work := exprs.New(n.Exprs)
	rows := columns.New(len(n.Exprs))
	for first, batch := range r.take(n.L).Batches(r.options.Batch) {
		values, err := work.On(batch, first)
		if err != nil {
			return nil, err
		}
		rows.Add(values)
	}
	return rows, nil
}

func (r *running) join(n api.Node) (columns.Rows, error) {
	return joins.Join(r.take(n.L), r.take(n.R), n.K, n.Keys, r.options)
}

func (r *running) group(n api.Node) (columns.Rows, error) {
	return groups.Group(r.take(n.L), n.Keys, r.options.Batch)
}

func (r *running) sort(n api.Node) (columns.Rows, error) {
	return sorts.Sort(r.take(n.L), r.schemas[n.L], n.Keys, r.options.Budget, r.disk)
}

func (r *running) limit(n api.Node) (columns.Rows, error) {
	rows := r.take(n.L)
	return rows.Cut(0, min(n.K, rows.Len())), nil
}

func (r *running) union(n api.Node) (columns.Rows, error) {
	left, right := r.take(n.L), r.take(n.R)
	if left.Len()+right.Len() > api.MaxResult {
		return nil, columns.ErrMany
	}
	rows := columns.New(len(left))
	rows.Add(left)
	rows.Add(right)
	return rows, nil
}
