package tables

import (
	"errors"
	"strconv"

	"colrun/api"
)

// What a set of tables refuses by itself.
var (
	ErrArg   = errors.New("tables: no table, or no way to write it")
	ErrTable = errors.New("tables: a table that is not there, or is there already, or has no place")
)

// Error is what came up below, and in which table.
type Error struct {
	Table  string
	Column int // None, if it was not for the values of a column
	Err    error
}

// Error is the error as a text.
func (e *Error) Error() string {
	place := "table " + strconv.Quote(e.Table)
	if e.Column != api.None {
		place += ", column " + strconv.Itoa(e.Column)
	}
	return place + ": " + e.Err.Error()
}

// Unwrap is what came up below.
func (e *Error) Unwrap() error {
	return e.Err
}
