package colrun

import (
	"errors"

	"colrun/api"
	"colrun/columns"
	"colrun/disk"
	"colrun/exprs"
	"colrun/groups"
	"colrun/plans"
	"colrun/segments"
	"colrun/tables"
)

// faultOf makes the fault that a call answers of a chain of errors from below: each place in it is asked of the layer that knows it. nil is the fault of a call that went well.
func faultOf(err error) api.Fault {
	return api.Fault{Code: codeOf(err), Node: nodeOf(err), Row: rowOf(err), Column: columnOf(err), Page: pageOf(err)}
}

func codeOf(err error) api.Errno {
	switch {
	case err == nil:
		return api.OK
	case errors.Is(err, segments.ErrDict):
		return api.ErrDict
	case errors.Is(err, segments.ErrForm):
		return api.ErrForm
	case errors.Is(err, tables.ErrTable):
		return api.ErrTable
	case errors.Is(err, disk.ErrQuota):
		return api.ErrQuota
	case errors.Is(err, disk.ErrWrite):
		return api.ErrWrite
	case errors.Is(err, disk.ErrPage):
		return api.ErrPage
	case errors.Is(err, plans.ErrPlan), errors.Is(err, exprs.ErrExpr):
		return api.ErrPlan
	case errors.Is(err, exprs.ErrDivide):
		return api.ErrDivide
	case errors.Is(err, exprs.ErrOverflow), errors.Is(err, groups.ErrOverflow):
		return api.ErrOverflow
	case errors.Is(err, columns.ErrMany):
		return api.ErrMany
	}
	return api.ErrArg
}

func nodeOf(err error) int {
	var e *plans.Error
	if errors.As(err, &e) {
		return e.Node
	}
	return api.None
}

// rowOf is the row of an expression, or the group, which is a row of what is told.
func rowOf(err error) int {
	var e *exprs.Error
	var g *groups.Error
	switch {
	case errors.As(err, &e):
		return e.Row
	case errors.As(err, &g):
		return g.Group
	}
	return api.None
}

func columnOf(err error) int {
	var e *tables.Error
	var g *groups.Error
	switch {
	case errors.As(err, &e):
		return e.Column
	case errors.As(err, &g):
		return g.Column
	}
	return api.None
}

func pageOf(err error) int {
	var e *disk.Error
	if errors.As(err, &e) {
		return e.Page
	}
	return api.None
}
