package exprs

import (
	"errors"
	"strconv"

	"colrun/api"
)

// ErrExpr is the error of parts that are no expression over the columns of such rows.
var ErrExpr = errors.New("exprs: no expression")

// Why a part of an expression is in error.
var (
	ErrDivide   = errors.New("exprs: a division by zero")
	ErrOverflow = errors.New("exprs: a number above 64 bits")
)

// Error is what came up in an expression, and where.
type Error struct {
	Row  int // None, if it is no expression at all
	Part int // None, if it is the number of the parts
	Why  error
}

// Error is the error as a text.
func (e *Error) Error() string {
	text := e.Why.Error()
	if e.Part != api.None {
		text = "part " + strconv.Itoa(e.Part) + ": " + text
	}
	if e.Row != api.None {
		text = "row " + strconv.Itoa(e.Row) + ": " + text
	}
	return text
}

// Unwrap is what is wrong.
func (e *Error) Unwrap() error {
	return e.Why
}
