// Package plans: nodes that take rows of each other, and whether they are a plan.
package plans

import (
	"slices"

	"colrun/api"
)

// Check is the schema of a plan's last node: as Schemas.
func Check(p api.Plan, types func(table string) ([]int, bool)) ([]int, error) {
	schemas, err := Schemas(p, types)
	if err != nil {
		return nil, err
	}
	return schemas[len(schemas)-1], nil
}

// Schemas are those of a plan's nodes: ErrPlan or exprs.ErrExpr, with the node. types tells the types of a table's columns, in memory that is the caller's; false, if there is no such table.
func Schemas(p api.Plan, types func(table string) ([]int, bool)) ([][]int, error) {
	if len(p.Nodes) < 1 || len(p.Nodes) > api.MaxNodes {
		return nil, &Error{Node: api.None, Err: ErrPlan}
	}
	c := &checking{types: types}
	var schemas [][]int
	for i, n := range p.Nodes {
		schema, err := c.node(n)
		if err != nil {
			return nil, &Error{Node: i, Err: err}
		}
		c.earlier = append(c.earlier, known{schema: schema})
		schemas = append(schemas, schema)
	}
	// Only here: a node that is wrong by itself goes before an earlier one that none names.
	last := len(c.earlier) - 1
	if i := slices.IndexFunc(c.earlier[:last], isLoose); i >= 0 {
		return nil, &Error{Node: i, Err: ErrPlan}
	}
	return schemas, nil
}

// known is what is known of a node that is right by itself.
type known struct {
	schema []int
	named  bool
}

func isLoose(k known) bool {
	return !k.named
}

// checking tells the schemas of a plan's nodes, one after the other.
type checking struct {
	types   func(table string) ([]int, bool)
	earlier []known // the nodes so far: a node that is not among them is no earlier one
}

func (c *checking) node(n api.Node) ([]int, error) {
	kinds := c.kinds()
	if n.Op < 0 || n.Op >= len(kinds) {
		return nil, ErrPlan
	}
	return kinds[n.Op](n)
}

// take is the schema of an earlier node, which is named by that, and must not have been.
func (c *checking) take(i int) ([]int, error) {
	if i < 0 || i >= len(c.earlier) || c.earlier[i].named {
		return nil, ErrPlan
	}
	c.earlier[i].named = true
	return c.earlier[i].schema, nil
}

// takeTwo takes both nodes that n names.
func (c *checking) takeTwo(n api.Node) (left []int, right []int, err error) {
	left, err = c.take(n.L)
	if err != nil {
		return nil, nil, err
	}
	right, err = c.take(n.R)
	return left, right, err
}
