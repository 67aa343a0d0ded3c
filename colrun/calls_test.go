package colrun_test

import (
	"math"
	"slices"
	"strings"
	"testing"

	"colrun/api"
	"colrun/colrun"
)

// ends fails if the call panics.
func ends(t *testing.T, name string, call func()) {
	t.Helper()
	defer func() {
		if p := recover(); p != nil {
			t.Errorf("P1: %s panics: %v", name, p)
		}
	}()
	call()
}

// TestPackAlwaysEnds hands all kinds of numbers to Pack: with an error there is no text, and the fault names no place.
func TestPackAlwaysEnds(t *testing.T) {
	strange := []int{math.MinInt, math.MinInt32, -256, -1, 0, 1, 2, 3, 4, 5, 255, 256, 257, 1 << 32, math.MaxInt}
	numbers := []int64{math.MinInt64, -1, 0, 1, 2, 256, math.MaxInt64}
	var lists [][]api.Value
	for _, kind := range strange {
		for _, n := range numbers {
			for _, s := range []string{"", "a", strings.Repeat("x", 40), strings.Repeat("x", 300)} {
				v := api.Value{Kind: kind, N: n, S: s}
				lists = append(lists, list(v), list(null, v), slices.Repeat(list(v), 64), slices.Repeat(list(v), 65))
			}
		}
	}
	lists = append(lists, nil, list(), make([]api.Value, 100000), counting(math.MaxInt64-9, 20))
	ends(t, "Pack", func() {
		for _, typ := range strange {
			for _, how := range strange {
				for _, vs := range lists {
					s, f := colrun.Pack(typ, how, vs)
					if f != placeless(f.Code) || (f.Code == api.OK) != (s != "") {
						t.Fatalf("P1: Pack(%d, %d, %v) = %v, %+v", typ, how, vs, []byte(s), f)
					}
				}
			}
		}
	})
}

// TestUnpackAlwaysEnds hands long texts to Unpack: with an error there is no type and no list.
func TestUnpackAlwaysEnds(t *testing.T) {
	ends(t, "Unpack", func() {
		for typ := range 6 {
			for how := range 6 {
				for n := range 256 {
					for _, fill := range []string{"\x00", "\x01", "\x02", "\x80", "\xff", "\x01\x00", "\x00\x01"} {
						s := raw(byte(typ), byte(how), byte(n)) + strings.Repeat(fill, 3000)
						if got, vs, f := colrun.Unpack(s); got != 0 || len(vs) != 0 || f != placeless(api.ErrForm) {
							t.Fatalf("P1, P4: Unpack of %d, %d, %d and 3000 times %q = %d, %v, %+v", typ, how, n, fill, got, vs, f)
						}
					}
				}
			}
		}
		colrun.Unpack(strings.Repeat("\x02\x02\x40\xff", 1<<20))
	})
}

// TestPackLeavesWhatItIsHanded looks at the list, and at what lies behind it in the same memory.
func TestPackLeavesWhatItIsHanded(t *testing.T) {
	for _, c := range allWritten() {
		memory := append(append(list(number(77)), c.vs...), text("behind"), truth(true))
		before := slices.Clone(memory)
		if s := mustPack(t, c.typ, c.how, memory[1:1+len(c.vs)]); s != c.segment {
			t.Errorf("P3: %s: %v", c.name, []byte(s))
		}
		if !slices.Equal(memory, before) {
			t.Errorf("P2: %s: Pack was handed %v and left %v", c.name, before, memory)
		}
	}
	wrong := append(counting(0, 17), number(18), text(""))
	before := slices.Clone(wrong)
	colrun.Pack(api.Int, api.Dictionary, wrong)
	colrun.Pack(api.Int, api.Dictionary, wrong[:17])
	if !slices.Equal(wrong, before) {
		t.Errorf("P2: Pack was handed %v, refused it, and left %v", before, wrong)
	}
}

// TestPackKeepsNothing writes over the list behind the call.
func TestPackKeepsNothing(t *testing.T) {
	for _, c := range allWritten() {
		vs := slices.Clone(c.vs)
		first := mustPack(t, c.typ, c.how, vs)
		for i := range vs {
			vs[i] = null
		}
		if first != c.segment {
			t.Errorf("P2: %s: the segment changed with the list: %v", c.name, []byte(first))
		}
		if again := mustPack(t, c.typ, c.how, c.vs); again != c.segment {
			t.Errorf("P2: %s: the second time %v", c.name, []byte(again))
		}
	}
}

// TestListsOfUnpackAreTheCallers writes into lists that came out and appends to them, also into the memory behind them.
func TestListsOfUnpackAreTheCallers(t *testing.T) {
	for _, c := range allWritten() {
		first := mustUnpack(t, c.segment)
		second := mustUnpack(t, c.segment)
		for i := range first {
			first[i] = api.Value{Kind: 99, N: 99, S: "99"}
		}
		for len(first) < 200 {
			first = append(first, text("mine"))
		}
		if !slices.Equal(second, c.vs) {
			t.Errorf("P2: %s: another list changed: %v", c.name, second)
		}
		if later := mustUnpack(t, c.segment); !slices.Equal(later, c.vs) {
			t.Errorf("P2: %s: a later list changed: %v", c.name, later)
		}
		if s := mustPack(t, c.typ, c.how, second); s != c.segment {
			t.Errorf("P2: %s: a later segment changed: %v", c.name, []byte(s))
		}
	}
}

// TestUnpackKeepsNothingOfARefusedText reads a segment before and after texts that are none.
func TestUnpackKeepsNothingOfARefusedText(t *testing.T) {
	for _, c := range examples() {
		for _, wrong := range refused() {
			colrun.Unpack(wrong.text)
			if vs := mustUnpack(t, c.segment); !slices.Equal(vs, c.vs) {
				t.Errorf("P1: %s, behind %s: %v", c.name, wrong.name, vs)
			}
		}
	}
}
