package colrun_test

import (
	"math"
	"slices"
	"strings"
	"testing"

	"colrun/api"
	"colrun/colrun"
)

// written is a segment, byte by byte, and the values in it.
type written struct {
	name     string
	typ, how int
	vs       []api.Value
	segment  string
}

// examples are those that the document writes out.
func examples() []written {
	return []written{
		{"document: plain numbers", api.Int, api.Plain, list(null, number(5), number(-1)), raw(1, 0, 3, 6, 5) + zeros(7) + ones(8)},
		{"document: dictionary of texts", api.Text, api.Dictionary, list(text("ab"), text("c"), text("ab")), raw(3, 1, 3, 7, 2, 2, 97, 98, 1, 99, 16, 0)},
		{"document: runs of truth values", api.Bool, api.Runs, list(truth(true), truth(true), null, truth(true), truth(false)), raw(2, 2, 5, 27, 3, 1, 1, 0)},
		{"document: packed numbers", api.Int, api.Packed, list(number(7), number(9), number(8)), raw(1, 3, 3, 7, 7) + zeros(7) + raw(2, 24)},
		{"document: packed truth values", api.Bool, api.Packed, list(truth(true), truth(false), truth(true)), raw(2, 3, 3, 7, 5)},
	}
}

// ordinary has each type in each way, with and without NULLs.
func ordinary() []written {
	five := raw(5) + zeros(7)
	minus2 := raw(254) + ones(7)
	return []written{
		{"plain numbers", api.Int, api.Plain, list(number(5), number(-2)), raw(1, 0, 2, 3) + five + minus2},
		{"plain number of eight bytes", api.Int, api.Plain, list(number(0x0102030405060708)), raw(1, 0, 1, 1, 8, 7, 6, 5, 4, 3, 2, 1)},
		{"plain truth values", api.Bool, api.Plain, list(truth(true), truth(false)), raw(2, 0, 2, 3, 1, 0)},
		{"plain truth values, NULL", api.Bool, api.Plain, list(truth(false), null, truth(true)), raw(2, 0, 3, 5, 0, 1)},
		{"plain texts", api.Text, api.Plain, list(text("abc"), text(""), text("\x00\xff")), raw(3, 0, 3, 7, 3, 97, 98, 99, 0, 2, 0, 255)},
		{"plain texts, NULL", api.Text, api.Plain, list(null, text("b")), raw(3, 0, 2, 2, 1, 98)},

		{"dictionary of numbers", api.Int, api.Dictionary, list(number(5), number(-2), number(5), number(5)), raw(1, 1, 4, 15, 2) + five + minus2 + raw(16, 0)},
		{"dictionary of numbers, NULL", api.Int, api.Dictionary, list(number(5), null, number(5)), raw(1, 1, 3, 5, 1) + five + raw(0)},
		{"dictionary of truth values", api.Bool, api.Dictionary, list(truth(true), truth(false), truth(false)), raw(2, 1, 3, 7, 2, 1, 0, 16, 1)},
		{"dictionary of truth values, NULL", api.Bool, api.Dictionary, list(null, truth(false), null, truth(true)), raw(2, 1, 4, 10, 2, 0, 1, 16)},
		{"dictionary in the order of coming, not of size", api.Text, api.Dictionary, list(text("z"), text(""), text("a")), raw(3, 1, 3, 7, 3, 1, 122, 0, 1, 97, 16, 2)},
		{"dictionary of texts, NULL", api.Text, api.Dictionary, list(text("z"), null, text("z"), text("z")), raw(3, 1, 4, 13, 1, 1, 122, 0, 0)},

		{"runs of numbers", api.Int, api.Runs, list(number(5), number(5), number(-2), number(5)), raw(1, 2, 4, 15, 2) + five + raw(1) + minus2 + raw(1) + five},
		{"runs go on over NULLs", api.Int, api.Runs, list(number(5), null, null, number(5)), raw(1, 2, 4, 9, 2) + five},
		{"runs of truth values, no NULL", api.Bool, api.Runs, list(truth(false), truth(false), truth(true)), raw(2, 2, 3, 7, 2, 0, 1, 1)},
		{"runs of texts", api.Text, api.Runs, list(text("a"), text("a"), text("aa")), raw(3, 2, 3, 7, 2, 1, 97, 1, 2, 97, 97)},
		{"runs of texts, NULL", api.Text, api.Runs, list(null, text(""), text("")), raw(3, 2, 3, 6, 2, 0)},

		{"packed numbers below 0", api.Int, api.Packed, list(number(3), number(-2), number(-1)), raw(1, 3, 3, 7) + minus2 + raw(3, 5+1<<6, 0)},
		{"packed numbers, NULL", api.Int, api.Packed, list(null, number(6), null, number(5)), raw(1, 3, 4, 10) + five + raw(1, 1)},
		{"packed truth values, NULL", api.Bool, api.Packed, list(null, truth(true), truth(false), null, truth(true)), raw(2, 3, 5, 22, 5)},
	}
}

// edges are those that the document names.
func edges() []written {
	longest := strings.Repeat("\x80", 40)
	sixteen := append(counting(0, 16), counting(0, 16)...)
	words, indexes := "", ""
	for k := range 16 {
		words += raw(byte(k)) + zeros(7)
	}
	for k := range 8 {
		indexes += raw(byte(2*k + (2*k+1)<<4))
	}
	seventeen := append(counting(0, 16), null)
	return []written{
		{"no numbers, plain", api.Int, api.Plain, nil, raw(1, 0, 0)},
		{"no truth values, plain", api.Bool, api.Plain, list(), raw(2, 0, 0)},
		{"no texts, plain", api.Text, api.Plain, nil, raw(3, 0, 0)},
		{"no numbers, dictionary", api.Int, api.Dictionary, nil, raw(1, 1, 0, 0)},
		{"no numbers, runs", api.Int, api.Runs, nil, raw(1, 2, 0)},
		{"no numbers, packed", api.Int, api.Packed, nil, raw(1, 3, 0)},
		{"no truth values, packed", api.Bool, api.Packed, nil, raw(2, 3, 0)},

		{"NULLs alone, plain", api.Text, api.Plain, list(null, null), raw(3, 0, 2, 0)},
		{"NULLs alone, dictionary", api.Text, api.Dictionary, list(null, null), raw(3, 1, 2, 0, 0)},
		{"NULLs alone, runs", api.Text, api.Runs, list(null, null), raw(3, 2, 2, 0)},
		{"NULLs alone, packed numbers", api.Int, api.Packed, list(null, null), raw(1, 3, 2, 0)},
		{"NULLs alone, packed truth values", api.Bool, api.Packed, list(null, null), raw(2, 3, 2, 0)},

		{"8 bits fill a byte", api.Bool, api.Packed, slices.Repeat(list(truth(true)), 8), raw(2, 3, 8, 255, 255)},
		{"9 bits take two bytes", api.Bool, api.Packed, slices.Repeat(list(truth(true)), 9), raw(2, 3, 9, 255, 1, 255, 1)},
		{"64 values, one run", api.Int, api.Runs, slices.Repeat(list(number(0)), 64), raw(1, 2, 64) + ones(8) + raw(64) + zeros(8)},
		{"64 NULLs", api.Int, api.Plain, make([]api.Value, 64), raw(1, 0, 64) + zeros(8)},
		{"64 truth values", api.Bool, api.Packed, slices.Repeat(list(truth(true), truth(false)), 32), raw(2, 3, 64) + ones(8) + strings.Repeat("\x55", 8)},

		{"16 different values", api.Int, api.Dictionary, sixteen, raw(1, 1, 32) + ones(4) + raw(16) + words + indexes + indexes},
		{"16 different values and NULL", api.Int, api.Dictionary, seventeen, raw(1, 1, 17) + ones(2) + raw(0, 16) + words + indexes},

		{"text of 40 bytes", api.Text, api.Plain, list(text(longest)), raw(3, 0, 1, 1, 40) + longest},
		{"text of 40 bytes in a dictionary", api.Text, api.Dictionary, list(text(longest)), raw(3, 1, 1, 1, 1, 40) + longest + raw(0)},
		{"text of 40 bytes in runs", api.Text, api.Runs, list(text(longest)), raw(3, 2, 1, 1, 1, 40) + longest},

		{"width 0, one number", api.Int, api.Packed, list(number(-1)), raw(1, 3, 1, 1) + ones(8) + raw(0)},
		{"width 0, more numbers", api.Int, api.Packed, list(number(4), null, number(4)), raw(1, 3, 3, 5, 4) + zeros(7) + raw(0)},
		{"width 1", api.Int, api.Packed, list(number(4), number(5)), raw(1, 3, 2, 3, 4) + zeros(7) + raw(1, 2)},
		{"width 8", api.Int, api.Packed, list(number(255), number(0)), raw(1, 3, 2, 3) + zeros(8) + raw(8, 255, 0)},
		{"width 9", api.Int, api.Packed, list(number(256), number(0)), raw(1, 3, 2, 3) + zeros(8) + raw(9, 0, 1, 0)},
		{"width 63", api.Int, api.Packed, list(number(0), number(math.MaxInt64)), raw(1, 3, 2, 3) + zeros(8) + raw(63) + zeros(7) + raw(128) + ones(7) + raw(63)},
		{"width 64", api.Int, api.Packed, list(number(math.MaxInt64), number(math.MinInt64)), raw(1, 3, 2, 3) + zeros(7) + raw(128, 64) + ones(8) + zeros(8)},
		{"width 64, just so", api.Int, api.Packed, list(number(-1), number(math.MaxInt64)), raw(1, 3, 2, 3) + ones(8) + raw(64) + zeros(8) + zeros(7) + raw(128)},
	}
}

func allWritten() []written {
	return slices.Concat(examples(), ordinary(), edges())
}

func TestPackWrites(t *testing.T) {
	for _, c := range allWritten() {
		s, f := colrun.Pack(c.typ, c.how, c.vs)
		if s != c.segment || f != placeless(api.OK) {
			t.Errorf("P3: %s: %v, %+v, want %v", c.name, []byte(s), f, []byte(c.segment))
		}
	}
}

func TestPackHolds64Values(t *testing.T) {
	if s := mustPack(t, api.Int, api.Plain, counting(0, 64)); len(s) != 3+8+64*8 {
		t.Errorf("P3: 64 numbers take %d bytes", len(s))
	}
	if s, f := colrun.Pack(api.Int, api.Plain, counting(0, 65)); s != "" || f != placeless(api.ErrArg) {
		t.Errorf("P3: 65 numbers: %v, %+v", []byte(s), f)
	}
}

// TestPackAsModel lays Pack beside a second one that works otherwise.
func TestPackAsModel(t *testing.T) {
	d := &dice{state: 1}
	for range 2000 {
		typ := 1 + d.below(3)
		vs := d.values(typ)
		for how := range 4 {
			if typ == api.Text && how == api.Packed {
				continue
			}
			want, code := "", api.ErrDict
			if s, ok := model(typ, how, vs); ok {
				want, code = s, api.OK
			}
			if s, f := colrun.Pack(typ, how, vs); s != want || f != placeless(code) {
				t.Fatalf("P3: Pack(%d, %d, %v) = %v, %+v, want %v, %d", typ, how, vs, []byte(s), f, []byte(want), code)
			}
		}
	}
}

// TestPackEachWidth packs two numbers that lie each power of two, and one less, apart.
func TestPackEachWidth(t *testing.T) {
	for _, least := range []int64{0, -1, 1, math.MinInt64, math.MinInt64 / 2} {
		for bit := range 64 {
			for _, apart := range []uint64{1 << bit, 1<<bit - 1, math.MaxUint64 >> bit} {
				other := int64(uint64(least) + apart)
				if other < least {
					continue
				}
				vs := list(number(other), null, number(least), number(other))
				want, _ := model(api.Int, api.Packed, vs)
				if s := mustPack(t, api.Int, api.Packed, vs); s != want {
					t.Errorf("P3: %d and %d, packed: %v, want %v", least, other, []byte(s), []byte(want))
				}
			}
		}
	}
}

func TestPackRefuses(t *testing.T) {
	tooLong := text(strings.Repeat("x", 41))
	for _, c := range []struct {
		name     string
		typ, how int
		vs       []api.Value
		code     api.Errno
	}{
		{"type 0", 0, api.Plain, nil, api.ErrArg},
		{"type 0 of NULLs", 0, api.Plain, list(null), api.ErrArg},
		{"type 4", 4, api.Plain, nil, api.ErrArg},
		{"type -1", -1, api.Plain, nil, api.ErrArg},
		{"type that is 1 in its lowest byte", 257, api.Plain, nil, api.ErrArg},
		{"greatest type", math.MaxInt, api.Packed, nil, api.ErrArg},
		{"least type", math.MinInt, api.Packed, nil, api.ErrArg},
		{"type 4 of values of Kind 4", 4, api.Plain, list(api.Value{Kind: 4}), api.ErrArg},
		{"way -1", api.Int, -1, nil, api.ErrArg},
		{"way 4", api.Int, 4, nil, api.ErrArg},
		{"way 256", api.Int, 256, nil, api.ErrArg},
		{"greatest way", api.Bool, math.MaxInt, nil, api.ErrArg},
		{"least way", api.Text, math.MinInt, nil, api.ErrArg},
		{"texts packed", api.Text, api.Packed, nil, api.ErrArg},
		{"NULLs packed as texts", api.Text, api.Packed, list(null), api.ErrArg},

		{"65 values", api.Int, api.Plain, counting(0, 65), api.ErrArg},
		{"65 NULLs", api.Bool, api.Packed, make([]api.Value, 65), api.ErrArg},
		{"300 NULLs", api.Bool, api.Runs, make([]api.Value, 300), api.ErrArg},

		{"truth value among numbers", api.Int, api.Plain, list(number(1), truth(true)), api.ErrArg},
		{"text among numbers", api.Int, api.Packed, list(text("")), api.ErrArg},
		{"number among truth values", api.Bool, api.Packed, list(number(1)), api.ErrArg},
		{"text among truth values", api.Bool, api.Runs, list(truth(true), text("")), api.ErrArg},
		{"number among texts", api.Text, api.Dictionary, list(text(""), number(0)), api.ErrArg},
		{"truth value among texts", api.Text, api.Plain, list(truth(false)), api.ErrArg},

		{"NULL with a number", api.Int, api.Plain, list(api.Value{N: 1}), api.ErrArg},
		{"NULL with a text", api.Text, api.Plain, list(api.Value{S: "a"}), api.ErrArg},
		{"number with a text", api.Int, api.Plain, list(api.Value{Kind: api.Int, S: "a"}), api.ErrArg},
		{"truth value 2", api.Bool, api.Plain, list(api.Value{Kind: api.Bool, N: 2}), api.ErrArg},
		{"truth value -1", api.Bool, api.Packed, list(api.Value{Kind: api.Bool, N: -1}), api.ErrArg},
		{"truth value 256", api.Bool, api.Runs, list(api.Value{Kind: api.Bool, N: 256}), api.ErrArg},
		{"truth value with a text", api.Bool, api.Plain, list(api.Value{Kind: api.Bool, S: "a"}), api.ErrArg},
		{"text with a number", api.Text, api.Plain, list(api.Value{Kind: api.Text, N: 1}), api.ErrArg},
		{"text of 41 bytes", api.Text, api.Plain, list(tooLong), api.ErrArg},
		{"text of 41 bytes, last, in runs", api.Text, api.Runs, list(text(""), null, tooLong), api.ErrArg},
		{"text of 21 letters of two bytes", api.Text, api.Plain, list(text(strings.Repeat("é", 21))), api.ErrArg},
		{"Kind 4", api.Int, api.Plain, list(api.Value{Kind: 4}), api.ErrArg},
		{"Kind -1", api.Int, api.Plain, list(api.Value{Kind: -1}), api.ErrArg},
		{"Kind 257", api.Int, api.Plain, list(api.Value{Kind: 257}), api.ErrArg},

		{"17 different values", api.Int, api.Dictionary, counting(0, 17), api.ErrDict},
		{"17 different values and NULLs", api.Int, api.Dictionary, append(list(null), append(counting(-8, 17), null)...), api.ErrDict},
		{"64 different values", api.Int, api.Dictionary, counting(0, 64), api.ErrDict},
		{"65 different values: too many of them comes first", api.Int, api.Dictionary, counting(0, 65), api.ErrArg},
		{"17 different values and a text: the text comes first", api.Int, api.Dictionary, append(counting(0, 17), text("")), api.ErrArg},
		{"17 different values, not in a dictionary", api.Int, api.Runs, counting(0, 17), api.OK},
	} {
		s, f := colrun.Pack(c.typ, c.how, c.vs)
		if f != placeless(c.code) || c.code != api.OK && s != "" {
			t.Errorf("P3: %s: %v, %+v, want the error %d", c.name, []byte(s), f, c.code)
		}
	}
}
