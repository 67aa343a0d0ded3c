// Package value: which values and types there are.
package value

import "colrun/api"

// IsType tells whether typ is the type of a column.
func IsType(typ int) bool {
	return typ == api.Int || typ == api.Bool || typ == api.Text
}

// IsOf tells whether v is a value, and of the type typ.
func IsOf(v api.Value, typ int) bool {
	if v.Kind == api.Null {
		return v == api.Value{}
	}
	return v.Kind == typ && isValue(v)
}

func isValue(v api.Value) bool {
	switch v.Kind {
	case api.Int:
		return v.S == ""
	case api.Bool:
		return (v.N == 0 || v.N == 1) && v.S == ""
	case api.Text:
		return v.N == 0 && len(v.S) <= api.MaxText
	}
	return false
}
