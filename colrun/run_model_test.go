package colrun_test

import (
	"math/big"
	"slices"
	"sort"

	"colrun/api"
)

// A second Run, which works row by row: no batches, no hashes, no runs, no disk; numbers are as great as they get.

// meant is what a plan means over tables: its rows, or its fault.
func meant(p api.Plan, tables []api.Table) ([]api.Row, api.Fault) {
	var done [][]api.Row
	for i := range p.Nodes {
		rows, f := meantNode(p, i, done, tables)
		if f.Code != api.OK {
			f.Node = i
			return nil, f
		}
		done = append(done, rows)
	}
	return done[len(done)-1], placeless(api.OK)
}

func meantNode(p api.Plan, i int, done [][]api.Row, tables []api.Table) ([]api.Row, api.Fault) {
	n := p.Nodes[i]
	var l, r []api.Row
	for at, number := range modelTakes(n) {
		if at == 0 {
			l = done[number]
		} else {
			r = done[number]
		}
	}
	switch n.Op {
	case api.Scan:
		return tableOf(tables, n.Table).Rows, placeless(api.OK)
	case api.Filter:
		return meantFilter(n.Exprs[0], l)
	case api.Project:
		return meantProject(n.Exprs, l)
	case api.Join:
		return meantJoin(n, l, r, meantWidth(p, n.R, tables))
	case api.Group:
		return meantGroup(n.Keys, l)
	case api.Sort:
		return meantSort(n.Keys, l), placeless(api.OK)
	case api.Limit:
		if n.K < len(l) {
			return l[:n.K], placeless(api.OK)
		}
		return l, placeless(api.OK)
	}
	return notMany(slices.Concat(l, r))
}

func tableOf(tables []api.Table, name string) api.Table {
	return tables[slices.IndexFunc(tables, func(t api.Table) bool { return t.Name == name })]
}

// meantWidth is how many columns a node has.
func meantWidth(p api.Plan, i int, tables []api.Table) int {
	n := p.Nodes[i]
	switch {
	case n.Op == api.Scan:
		return len(tableOf(tables, n.Table).Types)
	case n.Op == api.Project:
		return len(n.Exprs)
	case n.Op == api.Group:
		return len(n.Keys)
	case n.Op == api.Join && n.K < api.Semi:
		return meantWidth(p, n.L, tables) + meantWidth(p, n.R, tables)
	}
	return meantWidth(p, n.L, tables)
}

func notMany(rows []api.Row) ([]api.Row, api.Fault) {
	if len(rows) > 2000 {
		return nil, placeless(api.ErrMany)
	}
	return rows, placeless(api.OK)
}

func meantFilter(parts []api.Part, l []api.Row) ([]api.Row, api.Fault) {
	var rows []api.Row
	for i, row := range l {
		v, code := meantExpr(parts, row)
		if code != api.OK {
			return nil, atRow(code, api.None, i)
		}
		if v == truth(true) {
			rows = append(rows, row)
		}
	}
	return rows, placeless(api.OK)
}

func meantProject(exprs [][]api.Part, l []api.Row) ([]api.Row, api.Fault) {
	var rows []api.Row
	for i, row := range l {
		var out api.Row
		for _, parts := range exprs {
			v, code := meantExpr(parts, row)
			if code != api.OK {
				return nil, atRow(code, api.None, i)
			}
			out = append(out, v)
		}
		rows = append(rows, out)
	}
	return rows, placeless(api.OK)
}

// meantExpr is the value of an expression on a row, or the error of the first part that is in error.
func meantExpr(parts []api.Part, row api.Row) (api.Value, api.Errno) {
	var vs []api.Value
	for _, p := range parts {
		v, code := meantPart(p, vs, row)
		if code != api.OK {
			return null, code
		}
		vs = append(vs, v)
	}
	return vs[len(vs)-1], api.OK
}

func meantPart(p api.Part, vs []api.Value, row api.Row) (api.Value, api.Errno) {
	switch p.Op {
	case api.Col:
		return row[p.Col], api.OK
	case api.Const:
		return p.V, api.OK
	case api.Not:
		return fromThirds(2 - thirds(vs[p.L])), api.OK
	case api.IsNull:
		return truth(vs[p.L] == null), api.OK
	}
	a, b := vs[p.L], vs[p.R]
	switch {
	case p.Op == api.And:
		return fromThirds(min(thirds(a), thirds(b))), api.OK
	case p.Op == api.Or:
		return fromThirds(max(thirds(a), thirds(b))), api.OK
	case a == null || b == null:
		return null, api.OK
	case p.Op == api.Eq:
		return truth(!isLower(a, b) && !isLower(b, a)), api.OK
	case p.Op == api.Less:
		return truth(isLower(a, b)), api.OK
	}
	return meantNumber(p.Op, big.NewInt(a.N), big.NewInt(b.N))
}

func meantNumber(op int, a, b *big.Int) (api.Value, api.Errno) {
	n := new(big.Int)
	switch op {
	case api.Add:
		n.Add(a, b)
	case api.Sub:
		n.Sub(a, b)
	case api.Mul:
		n.Mul(a, b)
	case api.Div:
		if b.Sign() == 0 {
			return null, api.ErrDivide
		}
		n.Quo(a, b)
	}
	if !n.IsInt64() {
		return null, api.ErrOverflow
	}
	return number(n.Int64()), api.OK
}

// thirds: FALSE is 0, TRUE is 2, and NULL lies between.
func thirds(v api.Value) int {
	if v == null {
		return 1
	}
	return 2 * int(v.N)
}

func fromThirds(n int) api.Value {
	return []api.Value{truth(false), null, truth(true)}[n]
}

// isLower tells whether a value is below another one of its type, neither of them NULL.
func isLower(a, b api.Value) bool {
	if a.Kind != api.Text {
		return a.N < b.N
	}
	for i := range len(b.S) {
		if i == len(a.S) || a.S[i] < b.S[i] {
			return true
		}
		if a.S[i] > b.S[i] {
			return false
		}
	}
	return false
}

func meantJoin(n api.Node, l, r []api.Row, width int) ([]api.Row, api.Fault) {
	var rows []api.Row
	for _, left := range l {
		var fit []api.Row
		for _, right := range r {
			fits := true
			for _, k := range n.Keys {
				fits = fits && left[k.Col] != null && left[k.Col] == right[k.Other]
			}
			if fits {
				fit = append(fit, right)
			}
		}
		if n.K == api.Left && len(fit) == 0 {
			fit = append(fit, make(api.Row, width))
		}
		switch {
		case n.K == api.Inner || n.K == api.Left:
			for _, right := range fit {
				rows = append(rows, slices.Concat(left, right))
			}
		case (n.K == api.Semi) == (len(fit) > 0):
			rows = append(rows, left)
		}
		if len(rows) > 2000 {
			break
		}
	}
	return notMany(rows)
}

func meantGroup(keys []api.Key, l []api.Row) ([]api.Row, api.Fault) {
	marks := []api.Row{}
	members := [][]api.Row{}
	if !slices.ContainsFunc(keys, func(k api.Key) bool { return k.Fn == 0 }) {
		marks, members = append(marks, nil), append(members, nil)
	}
	for _, row := range l {
		var mark api.Row
		for _, k := range keys {
			if k.Fn == 0 {
				mark = append(mark, row[k.Col])
			}
		}
		at := slices.IndexFunc(marks, func(m api.Row) bool { return slices.Equal(m, mark) })
		if at < 0 {
			at = len(marks)
			marks, members = append(marks, mark), append(members, nil)
		}
		members[at] = append(members[at], row)
	}
	var rows []api.Row
	for g, l := range members {
		var out api.Row
		for c, k := range keys {
			v, ok := meantTold(k, l)
			if !ok {
				return nil, atGroup(api.None, g, c)
			}
			out = append(out, v)
		}
		rows = append(rows, out)
	}
	return rows, placeless(api.OK)
}

// meantTold is what a key tells of the rows of a group; false, if it does not fit.
func meantTold(k api.Key, l []api.Row) (api.Value, bool) {
	if k.Fn == api.CountAll {
		return number(int64(len(l))), true
	}
	if k.Fn == api.Value0 {
		return l[0][k.Col], true
	}
	var vs []api.Value
	total := new(big.Int)
	for _, row := range l {
		if row[k.Col] != null {
			vs = append(vs, row[k.Col])
			total.Add(total, big.NewInt(row[k.Col].N))
		}
	}
	sort.SliceStable(vs, func(i, j int) bool { return isLower(vs[i], vs[j]) })
	switch {
	case k.Fn == api.Count:
		return number(int64(len(vs))), true
	case len(vs) == 0:
		return null, true
	case k.Fn == api.Least:
		return vs[0], true
	case k.Fn == api.Most:
		return vs[len(vs)-1], true
	}
	return number(total.Int64()), total.IsInt64()
}

// meantSort sorts by the last key first: as each sort leaves rows that are the same in their order, the first key decides in the end.
func meantSort(keys []api.Key, l []api.Row) []api.Row {
	rows := slices.Clone(l)
	for _, k := range slices.Backward(keys) {
		sort.SliceStable(rows, func(i, j int) bool {
			a, b := rows[i][k.Col], rows[j][k.Col]
			switch {
			case b == null:
				return false
			case a == null:
				return true
			case k.Down:
				return isLower(b, a)
			}
			return isLower(a, b)
		})
	}
	return rows
}
