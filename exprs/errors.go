package exprs

import (
	"errors"
	"strconv"

	"colrun/api"
)

// ErrExpr is the error of parts that are no expression over the columns of such rows.
var ErrExpr = errors.New("exprs: no expression")

// Error is what is wrong with an expression, and at which part.
type Error struct {
	Part int // None, if it is the number of the parts
	Why  error
}

// Error is the error as a text.
func (e *Error) Error() string {
	if e.Part == api.None {
		return e.Why.Error()
	}
	return "part " + strconv.Itoa(e.Part) + ": " + e.Why.Error()
}

// Unwrap is what is wrong.
func (e *Error) Unwrap() error {
	return e.Why
}
