package tables

import (
	"colrun/api"
	"colrun/segments"
	"colrun/value"
)

func isTable(t api.Table) bool {
	if len(t.Name) < 1 || len(t.Name) > api.MaxName || !areTypes(t.Types) || len(t.Rows) > api.MaxRows {
		return false
	}
	for _, row := range t.Rows {
		if !isRow(row, t.Types) {
			return false
		}
	}
	return true
}

func areTypes(types []int) bool {
	if len(types) < 1 || len(types) > api.MaxColumns {
		return false
	}
	for _, typ := range types {
		if !value.IsType(typ) {
			return false
		}
	}
	return true
}

// isRow tells whether a row has a value for each column, of its type.
func isRow(row api.Row, types []int) bool {
	if len(row) != len(types) {
		return false
	}
	for c, v := range row {
		if !value.IsOf(v, types[c]) {
			return false
		}
	}
	return true
}

// areWays tells whether there is one way for each column, in which values of its type can be written.
func areWays(hows []int, types []int) bool {
	if len(hows) != len(types) {
		return false
	}
	for c, how := range hows {
		if !segments.CanBe(types[c], how) {
			return false
		}
	}
	return true
}
