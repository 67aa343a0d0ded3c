package groups

import (
	"errors"
	"strconv"
)

// ErrOverflow is the error of a sum that does not fit into 64 bits.
var ErrOverflow = errors.New("groups: a sum above 64 bits")

// Error is what came up in a group, and where.
type Error struct {
	Group  int
	Column int
	Why    error
}

// Error is the error as a text.
func (e *Error) Error() string {
	return "group " + strconv.Itoa(e.Group) + ", column " + strconv.Itoa(e.Column) + ": " + e.Why.Error()
}

// Unwrap is what came up.
func (e *Error) Unwrap() error {
	return e.Why
}
