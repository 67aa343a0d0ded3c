package work_test

import (
	"errors"
	"slices"
	"testing"

	"colrun/api"
	"colrun/columns"
	"colrun/disk"
	"colrun/exprs"
	"colrun/groups"
	"colrun/plans"
	"colrun/tables"
	"colrun/work"
)

func number(n int64) api.Value { return api.Value{Kind: api.Int, N: n} }

// loaded is a disk with so many pages left, and on it a table of 60 numbers.
func loaded(t *testing.T, left int) (*disk.Disk, *tables.Set) {
	t.Helper()
	x := api.Table{Name: "t", Types: []int{api.Int}}
	for i := range 60 {
		x.Rows = append(x.Rows, api.Row{number(int64(i))})
	}
	d := disk.New(api.Disk{Quota: 60 + left})
	s := tables.New(d)
	if err := s.Load(x, []int{api.Plain}, 1); err != nil {
		t.Fatal(err)
	}
	return d, s
}

var options = api.Options{Batch: 7, Budget: 9}

func scan() api.Node { return api.Node{Op: api.Scan, Table: "t"} }

func project(l int, parts ...api.Part) api.Node {
	return api.Node{Op: api.Project, L: l, Exprs: [][]api.Part{parts}}
}

func TestRun(t *testing.T) {
	d, s := loaded(t, 100)
	limit := api.Node{Op: api.Limit, L: 1, K: 3}
	down := api.Node{Op: api.Sort, Keys: []api.Key{{Down: true}}}
	rows, err := work.Run(api.Plan{Nodes: []api.Node{scan(), down, limit}}, options, s, d)
	if err != nil || len(rows) != 1 || !slices.Equal(rows[0], []api.Value{number(59), number(58), number(57)}) || d.Used() != 60 {
		t.Errorf("%v, %v, %d pages in use", rows, err, d.Used())
	}
}

// TestErrorsKnowTheirPlaces: the node is the run's, what is below it comes out of the same chain.
func TestErrorsKnowTheirPlaces(t *testing.T) {
	constant := api.Part{Op: api.Const, Col: api.Int, V: number(0)}
	divide := []api.Part{constant, {Op: api.Col}, {Op: api.Div, L: 0, R: 1}}
	great := api.Part{Op: api.Const, Col: api.Int, V: number(1 << 62)}
	total := api.Node{Op: api.Group, L: 1, Keys: []api.Key{{Fn: api.CountAll}, {Fn: api.Total}}}
	pairs := api.Node{Op: api.Join, L: 0, R: 1, Keys: []api.Key{{}}}
	one := project(2, constant)
	for _, c := range []struct {
		name  string
		nodes []api.Node
		left  int
		why   error
		node  int
	}{
		{"no plan", []api.Node{scan(), {Op: 8}}, 0, plans.ErrPlan, 1},
		{"no expression", []api.Node{scan(), project(0)}, 0, exprs.ErrExpr, 1},
		{"a division", []api.Node{scan(), project(0, divide...)}, 0, exprs.ErrDivide, 1},
		{"a sum", []api.Node{scan(), project(0, great), total}, 0, groups.ErrOverflow, 2},
		{"a full disk", []api.Node{scan(), {Op: api.Sort, Keys: []api.Key{{}}}}, 0, disk.ErrQuota, 1},
		{"many rows", []api.Node{scan(), project(0, constant), scan(), one, {Op: api.Join, L: 1, R: 3, Keys: pairs.Keys}}, 0, columns.ErrMany, 4},
	} {
		d, s := loaded(t, c.left)
		rows, err := work.Run(api.Plan{Nodes: c.nodes}, options, s, d)
		wrapped := errors.Join(errors.New("something else"), err)
		var e *plans.Error
		if rows != nil || !errors.Is(wrapped, c.why) || !errors.As(wrapped, &e) || e.Node != c.node || e.Error() == "" || d.Used() != 60 {
			t.Errorf("%s: %v, %v, want %v in node %d", c.name, rows, err, c.why, c.node)
		}
	}
	d, s := loaded(t, 0)
	d.Spoil(17, 1, 1)
	_, err := work.Run(api.Plan{Nodes: []api.Node{scan()}}, options, s, d)
	var page *disk.Error
	var table *tables.Error
	if !errors.Is(err, disk.ErrPage) || !errors.As(err, &page) || page.Page != 17 || !errors.As(err, &table) || table.Table != "t" {
		t.Errorf("a spoilt page: %v", err)
	}
	if _, err := work.Run(api.Plan{Nodes: []api.Node{scan()}}, api.Options{}, s, d); !errors.Is(err, work.ErrArg) {
		t.Errorf("no options: %v", err)
	}
}
