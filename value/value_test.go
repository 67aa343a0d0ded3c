package value_test

import (
	"math"
	"strings"
	"testing"

	"colrun/api"
	"colrun/value"
)

func TestIsType(t *testing.T) {
	for typ, want := range map[int]bool{math.MinInt: false, -1: false, 0: false, 1: true, 2: true, 3: true, 4: false, 257: false, math.MaxInt: false} {
		if value.IsType(typ) != want {
			t.Errorf("IsType(%d) = %v", typ, !want)
		}
	}
}

func TestTypeAt(t *testing.T) {
	types := []int{api.Text, api.Int, api.Bool}
	for i, want := range map[int]int{math.MinInt: 0, -1: 0, 0: api.Text, 1: api.Int, 2: api.Bool, 3: 0, 1 << 32: 0, math.MaxInt: 0} {
		if typ, ok := value.TypeAt(types, i); typ != want || ok != (want != 0) {
			t.Errorf("TypeAt(%d) = %d, %v", i, typ, ok)
		}
	}
	if typ, ok := value.TypeAt(nil, 0); typ != 0 || ok {
		t.Errorf("TypeAt of no types = %d, %v", typ, ok)
	}
}

func TestIsOf(t *testing.T) {
	every := []int{api.Int, api.Bool, api.Text}
	for _, c := range []struct {
		v     api.Value
		types []int
	}{
		{api.Value{}, every},
		{api.Value{N: 1}, nil},
		{api.Value{S: "a"}, nil},
		{api.Value{Kind: api.Int, N: math.MinInt64}, []int{api.Int}},
		{api.Value{Kind: api.Int, S: "a"}, nil},
		{api.Value{Kind: api.Bool}, []int{api.Bool}},
		{api.Value{Kind: api.Bool, N: 1}, []int{api.Bool}},
		{api.Value{Kind: api.Bool, N: 2}, nil},
		{api.Value{Kind: api.Bool, N: -1}, nil},
		{api.Value{Kind: api.Bool, N: 1, S: "a"}, nil},
		{api.Value{Kind: api.Text}, []int{api.Text}},
		{api.Value{Kind: api.Text, S: strings.Repeat("x", 40)}, []int{api.Text}},
		{api.Value{Kind: api.Text, S: strings.Repeat("x", 41)}, nil},
		{api.Value{Kind: api.Text, N: 1}, nil},
		{api.Value{Kind: 4}, nil},
		{api.Value{Kind: -1}, nil},
	} {
		for _, typ := range every {
			want := false
			for _, x := range c.types {
				want = want || x == typ
			}
			if value.IsOf(c.v, typ) != want {
				t.Errorf("IsOf(%+v, %d) = %v", c.v, typ, !want)
			}
		}
	}
	if value.IsOf(api.Value{Kind: 4}, 4) {
		t.Error("a Kind that is none is of no type")
	}
}

// TestCompare: of each type, values from the least on.
func TestCompare(t *testing.T) {
	number := func(n int64) api.Value { return api.Value{Kind: api.Int, N: n} }
	text := func(s string) api.Value { return api.Value{Kind: api.Text, S: s} }
	for _, order := range [][]api.Value{
		{number(math.MinInt64), number(-1), number(0), number(1), number(math.MaxInt64)},
		{{Kind: api.Bool}, {Kind: api.Bool, N: 1}},
		{text(""), text("\x00"), text("a"), text("a\x00"), text("aa"), text("b"), text("\x80"), text("\xff")},
	} {
		for i, a := range order {
			for k, b := range order {
				got := value.Compare(a, b)
				if (got < 0) != (i < k) || (got > 0) != (i > k) {
					t.Errorf("Compare(%+v, %+v) = %d", a, b, got)
				}
			}
		}
	}
}
