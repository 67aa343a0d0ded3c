package plans

import (
	"errors"
	"strconv"

	"colrun/api"
)

// ErrPlan is the error of nodes that are no plan over the tables that are there.
var ErrPlan = errors.New("plans: no plan")

// Error is what came up in a plan, or below it, and at which node.
type Error struct {
	Node int // None, if it is the number of the nodes
	Err  error
}

// Error is the error as a text.
func (e *Error) Error() string {
	if e.Node == api.None {
		return e.Err.Error()
	}
	return "node " + strconv.Itoa(e.Node) + ": " + e.Err.Error()
}

// Unwrap is what came up.
func (e *Error) Unwrap() error {
	return e.Err
}
