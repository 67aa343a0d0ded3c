package plans

import (
	"slices"

	"colrun/api"
	"colrun/exprs"
	"colrun/value"
)

// kinds are the kinds of nodes, by their numbers; each tells the schema of such a node, or what is wrong with it.
func (c *checking) kinds() [8]func(api.Node) ([]int, error) {
	return [8]func(api.Node) ([]int, error){
		api.Scan:    c.scan,
		api.Filter:  c.filter,
		api.Project: c.project,
		api.Join:    c.join,
		api.Group:   c.group,
		api.Sort:    c.sort,
		api.Limit:   c.limit,
		api.Union:   c.union,
	}
}

func (c *checking) scan(n api.Node) ([]int, error) {
	types, ok := c.types(n.Table)
	if !ok {
		return nil, ErrPlan
	}
	return types, nil
}

// filter looks at the first expression alone: the others say nothing.
func (c *checking) filter(n api.Node) ([]int, error) {
	schema, err := c.take(n.L)
	if err != nil {
		return nil, err
	}
	if len(n.Exprs) < 1 {
		return nil, ErrPlan
	}
	typ, err := exprs.Type(n.Exprs[0], schema)
	if err != nil {
		return nil, err
	}
	if typ != api.Bool {
		return nil, ErrPlan
	}
	return schema, nil
}

func (c *checking) project(n api.Node) ([]int, error) {
	below, err := c.take(n.L)
	if err != nil {
		return nil, err
	}
	if len(n.Exprs) < 1 || len(n.Exprs) > api.MaxExprs {
		return nil, ErrPlan
	}
	var schema []int
	for _, parts := range n.Exprs {
		typ, err := exprs.Type(parts, below)
		if err != nil {
			return nil, err
		}
		schema = append(schema, typ)
	}
	return schema, nil
}

func (c *checking) join(n api.Node) ([]int, error) {
	left, right, err := c.takeTwo(n)
	if err != nil {
		return nil, err
	}
	if !canBeKeys(n.Keys) || !arePairs(n.Keys, left, right) {
		return nil, ErrPlan
	}
	switch n.K {
	case api.Inner, api.Left:
		return beside(left, right)
	case api.Semi, api.Anti:
		return left, nil
	}
	return nil, ErrPlan
}

func (c *checking) group(n api.Node) ([]int, error) {
	below, err := c.take(n.L)
	if err != nil {
		return nil, err
	}
	if !canBeKeys(n.Keys) {
		return nil, ErrPlan
	}
	var schema []int
	for _, k := range n.Keys {
		typ, ok := toldType(k, below)
		if !ok {
			return nil, ErrPlan
		}
		schema = append(schema, typ)
	}
	return schema, nil
}

func (c *checking) sort(n api.Node) ([]int, error) {
	schema, err := c.take(n.L)
	if err != nil {
		return nil, err
	}
	if !canBeKeys(n.Keys) {
		return nil, ErrPlan
	}
	for _, k := range n.Keys {
		if _, ok := value.TypeAt(schema, k.Col); !ok {
			return nil, ErrPlan
		}
	}
	return schema, nil
}

func (c *checking) limit(n api.Node) ([]int, error) {
	schema, err := c.take(n.L)
	if err != nil {
		return nil, err
	}
	if n.K < 0 || n.K > api.MaxLimit {
		return nil, ErrPlan
	}
	return schema, nil
}

func (c *checking) union(n api.Node) ([]int, error) {
	left, right, err := c.takeTwo(n)
	if err != nil {
		return nil, err
	}
	if !slices.Equal(left, right) {
		return nil, ErrPlan
	}
	return left, nil
}

func canBeKeys(keys []api.Key) bool {
	return len(keys) >= 1 && len(keys) <= api.MaxKeys
}

// arePairs tells whether each key is a column of either side, both of one type.
func arePairs(keys []api.Key, left []int, right []int) bool {
	for _, k := range keys {
		one, isLeft := value.TypeAt(left, k.Col)
		other, isRight := value.TypeAt(right, k.Other)
		if !isLeft || !isRight || one != other {
			return false
		}
	}
	return true
}

// beside is both schemas, one behind the other, if that is not too wide.
func beside(left []int, right []int) ([]int, error) {
	if len(left)+len(right) > api.MaxWidth {
		return nil, ErrPlan
	}
	return slices.Concat(left, right), nil
}

// toldType is the type of what a key of a Group tells; false, if it can tell nothing.
func toldType(k api.Key, below []int) (int, bool) {
	if k.Fn == api.CountAll {
		return api.Int, true // of no column: Col says nothing
	}
	typ, ok := value.TypeAt(below, k.Col)
	switch k.Fn {
	case api.Value0, api.Least, api.Most:
		return typ, ok
	case api.Count:
		return api.Int, ok
	case api.Total:
		return api.Int, ok && typ == api.Int
	}
	return 0, false
}
