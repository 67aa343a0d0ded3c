package colrun

import (
	"errors"

	"colrun/api"
	"colrun/segments"
)

// faultOf makes the fault that a call answers of an error from below; nil is that of a call that went well.
func faultOf(err error) api.Fault {
	return api.Fault{Code: codeOf(err), Node: api.None, Row: api.None, Column: api.None, Page: api.None}
}

func codeOf(err error) api.Errno {
	switch {
	case err == nil:
		return api.OK
	case errors.Is(err, segments.ErrDict):
		return api.ErrDict
	case errors.Is(err, segments.ErrForm):
		return api.ErrForm
	}
	return api.ErrArg
}
