package segments_test

import (
	"errors"
	"testing"

	"colrun/api"
	"colrun/segments"
)

func TestErrorsCanBeAsked(t *testing.T) {
	var different []api.Value
	for n := range 17 {
		different = append(different, api.Value{Kind: api.Int, N: int64(n)})
	}
	_, noType := segments.Pack(0, api.Plain, nil)
	_, tooMany := segments.Pack(api.Int, api.Dictionary, different)
	_, _, cutOff := segments.Unpack("\x01\x00")
	_, _, behind := segments.Unpack("\x01\x00\x00\x00")
	for _, c := range []struct{ err, want error }{
		{noType, segments.ErrArg},
		{tooMany, segments.ErrDict},
		{cutOff, segments.ErrForm},
		{behind, segments.ErrForm},
	} {
		for _, e := range []error{segments.ErrArg, segments.ErrDict, segments.ErrForm} {
			if errors.Is(c.err, e) != (e == c.want) {
				t.Errorf("%v is held for %v, or is not: want %v", c.err, e, c.want)
			}
		}
	}
}

func TestNoErrorOfWhatIsWell(t *testing.T) {
	text, err := segments.Pack(api.Bool, api.Packed, []api.Value{{Kind: api.Bool, N: 1}, {}})
	if text != "\x02\x03\x02\x01\x01" || err != nil {
		t.Fatalf("Pack: %q, %v", text, err)
	}
	typ, vs, err := segments.Unpack(text)
	if typ != api.Bool || len(vs) != 2 || err != nil {
		t.Errorf("Unpack: %d, %v, %v", typ, vs, err)
	}
}

// TestValues: of the type and the number that are asked for, or none.
func TestValues(t *testing.T) {
	text, err := segments.Pack(api.Int, api.Runs, []api.Value{{Kind: api.Int, N: 7}, {}})
	if err != nil {
		t.Fatal(err)
	}
	if vs, err := segments.Values(text, api.Int, 2); err != nil || len(vs) != 2 || vs[0].N != 7 {
		t.Errorf("Values: %v, %v", vs, err)
	}
	for _, c := range []struct {
		text   string
		typ, n int
	}{{text, api.Int, 1}, {text, api.Int, 3}, {text, api.Bool, 2}, {text, api.Text, 2}, {text[:4], api.Int, 2}, {"", api.Int, 0}} {
		if vs, err := segments.Values(c.text, c.typ, c.n); vs != nil || !errors.Is(err, segments.ErrForm) {
			t.Errorf("Values of %+v: %v, %v", c, vs, err)
		}
	}
}
