package disk

import (
	"errors"
	"strconv"

	"colrun/api"
)

// Why a disk does not do what it is asked for.
var (
	ErrQuota = errors.New("disk: as many pages in use as may be")
	ErrWrite = errors.New("disk: a page could not be written")
	ErrPage  = errors.New("disk: a page is spoilt")
)

// Error is what the disk could not do, and at which page.
type Error struct {
	Why  error
	Page int // the one that is spoilt; None with the other two, which are told of no page
}

// Error is the error as a text.
func (e *Error) Error() string {
	if e.Page == api.None {
		return e.Why.Error()
	}
	return e.Why.Error() + ": " + strconv.Itoa(e.Page)
}

// Unwrap is why.
func (e *Error) Unwrap() error {
	return e.Why
}

// Spoilt is the error of a page whose bytes cannot be what was written.
func Spoilt(page int) error {
	return &Error{Why: ErrPage, Page: page}
}
