package plans_test

import (
	"errors"
	"slices"
	"testing"

	"colrun/api"
	"colrun/exprs"
	"colrun/plans"
)

// tables are those over which plans are checked here.
func tables(name string) ([]int, bool) {
	switch name {
	case "n":
		return []int{api.Int}, true
	case "nt":
		return []int{api.Int, api.Text}, true
	}
	return nil, false
}

func scan(name string) api.Node { return api.Node{Op: api.Scan, Table: name} }

func limit(l, k int) api.Node { return api.Node{Op: api.Limit, L: l, K: k} }

func filter(l int, parts ...api.Part) api.Node {
	return api.Node{Op: api.Filter, L: l, Exprs: [][]api.Part{parts}}
}

func plan(nodes ...api.Node) api.Plan { return api.Plan{Nodes: nodes} }

func TestCheck(t *testing.T) {
	inner := api.Node{Op: api.Join, L: 0, R: 2, K: api.Inner, Keys: []api.Key{{}}}
	schema, err := plans.Check(plan(scan("nt"), scan("n"), limit(1, 1), inner), tables)
	if err != nil || !slices.Equal(schema, []int{api.Int, api.Text, api.Int}) {
		t.Errorf("Check = %v, %v", schema, err)
	}
}

// TestSchemas: one for each node.
func TestSchemas(t *testing.T) {
	schemas, err := plans.Schemas(plan(scan("nt"), filter(0, api.Part{Op: api.Col}, api.Part{Op: api.IsNull}), scan("n"), api.Node{Op: api.Join, L: 1, R: 2, Keys: []api.Key{{}}}), tables)
	want := [][]int{{api.Int, api.Text}, {api.Int, api.Text}, {api.Int}, {api.Int, api.Text, api.Int}}
	if err != nil || !slices.EqualFunc(schemas, want, slices.Equal) {
		t.Errorf("Schemas = %v, %v, want %v", schemas, err, want)
	}
	if schemas, err := plans.Schemas(plan(scan("n"), scan("n")), tables); schemas != nil || err == nil {
		t.Errorf("Schemas of no plan = %v, %v", schemas, err)
	}
}

// TestErrorsKnowTheirPlaces: the node is the plan's, the part the expression's; both come out of one chain.
func TestErrorsKnowTheirPlaces(t *testing.T) {
	number := api.Part{Op: api.Col}
	not := api.Part{Op: api.Not}
	for _, c := range []struct {
		name   string
		plan   api.Plan
		node   int
		inExpr bool
		part   int
	}{
		{"no nodes", plan(), api.None, false, 0},
		{"13 nodes", plan(make([]api.Node, 13)...), api.None, false, 0},
		{"no such table", plan(scan("n"), scan("?")), 1, false, 0},
		{"no such kind", plan(scan("n"), limit(0, 1), api.Node{Op: 8}), 2, false, 0},
		{"none names it", plan(scan("n"), scan("n"), limit(0, 1)), 1, false, 0},
		{"a Filter by a number", plan(scan("n"), filter(0, number)), 1, false, 0},
		{"a Filter by no parts", plan(scan("n"), filter(0)), 1, true, api.None},
		{"a Filter by a wrong part", plan(scan("n"), limit(0, 1), filter(1, number, number, not)), 2, true, 2},
		{"a Project of a wrong part", plan(scan("n"), api.Node{Op: api.Project, Exprs: [][]api.Part{{number}, {number, not}}}), 1, true, 1},
	} {
		schema, err := plans.Check(c.plan, tables)
		wrapped := errors.Join(errors.New("something else"), err)
		why := plans.ErrPlan
		if c.inExpr {
			why = exprs.ErrExpr
		}
		var e *plans.Error
		if schema != nil || !errors.Is(wrapped, why) || !errors.As(wrapped, &e) || e.Node != c.node || e.Error() == "" {
			t.Errorf("%s: %v, %v, want node %d", c.name, schema, err, c.node)
		}
		var below *exprs.Error
		if errors.As(wrapped, &below) != c.inExpr || c.inExpr && below.Part != c.part {
			t.Errorf("%s: %v, want part %d", c.name, err, c.part)
		}
	}
}
