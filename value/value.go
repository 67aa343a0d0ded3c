// Package value: which values and types there are, and how values are in order.
package value

import (
	"cmp"
	"strings"

	"colrun/api"
)

// IsType tells whether typ is the type of a column.
func IsType(typ int) bool {
	return typ == api.Int || typ == api.Bool || typ == api.Text
}

// TypeAt is the type that has this number in a list of types; false, if none has.
func TypeAt(types []int, i int) (int, bool) {
	if i < 0 || i >= len(types) {
		return 0, false
	}
	return types[i], true
}

// IsOf tells whether v is a value, and of the type typ.
func IsOf(v api.Value, typ int) bool {
	if v.Kind == api.Null {
		return v == api.Value{}
	}
	return v.Kind == typ && isValue(v)
}

// Compare tells how two values of one type are in order, neither of them NULL: below 0, if a is below b; 0, if they are the same; else above 0. (Only numbers and truth values have an N, only texts an S.)
func Compare(a, b api.Value) int {
	return cmp.Or(cmp.Compare(a.N, b.N), strings.Compare(a.S, b.S))
}

func isValue(v api.Value) bool {
	switch v.Kind {
	case api.Int:
		return v.S == ""
	case api.Bool:
		return (v.N == 0 || v.N == 1) && v.S == ""
	case api.Text:
		return v.N == 0 && len(v.S) <= api.MaxText
	}
	return false
}
