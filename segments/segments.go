// Package segments writes values of one type as a text of bytes, in one of four ways, and reads them back.
package segments

import (
	"errors"

	"colrun/api"
	"colrun/value"
)

// What Pack and Unpack refuse.
var (
	ErrArg  = errors.New("segments: not values of one type, or no way to write them")
	ErrDict = errors.New("segments: more different values than a dictionary holds")
	ErrForm = errors.New("segments: bytes that are no segment")
)

// indexBits: with so many bits a value tells which one of a dictionary it is.
const indexBits = 4

// Pack is the segment of the values: ErrArg, ErrDict.
func Pack(typ int, how int, vs []api.Value) (string, error) {
	if !CanBe(typ, how) || !areValues(typ, vs) {
		return "", ErrArg
	}
	held := withoutNulls(vs)
	if how == api.Dictionary && len(different(held)) > api.MaxDict {
		return "", ErrDict
	}
	w := &writer{typ: typ}
	w.head(how, vs)
	w.ways()[how](held)
	return string(w.out), nil
}

// Unpack is the type and the values of a segment: ErrForm.
func Unpack(text string) (typ int, vs []api.Value, err error) {
	// A reader gives up by panic, from however deep; none of that leaves the package.
	defer func() {
		if recover() != nil {
			typ, vs, err = 0, nil, ErrForm
		}
	}()
	r := &reader{left: text}
	how, n := r.head()
	vs = r.values(how, n)
	// The reader takes more than Pack writes (left-over bits, bytes behind, a width that is too great ..): to write the values again tells them all, and the rules of writing stand in one place.
	again, err := Pack(r.typ, how, vs)
	if err != nil || again != text {
		return 0, nil, ErrForm
	}
	return r.typ, vs, nil
}

// Values are those of a segment that must be one of so many values of the type: ErrForm.
func Values(text string, typ int, n int) ([]api.Value, error) {
	found, vs, err := Unpack(text)
	if err != nil || found != typ || len(vs) != n {
		return nil, ErrForm
	}
	return vs, nil
}

// CanBe tells whether values of the type can be written so.
func CanBe(typ int, how int) bool {
	if how == api.Packed {
		return typ == api.Int || typ == api.Bool
	}
	return value.IsType(typ) && how >= api.Plain && how <= api.Runs
}

func areValues(typ int, vs []api.Value) bool {
	if len(vs) > api.MaxGroup {
		return false
	}
	for _, v := range vs {
		if !value.IsOf(v, typ) {
			return false
		}
	}
	return true
}
