package colrun_test

import (
	"math/big"
	"slices"
	"strings"
	"testing"

	"colrun/api"
	"colrun/colrun"
)

var null = api.Value{}

func number(n int64) api.Value { return api.Value{Kind: api.Int, N: n} }

func text(s string) api.Value { return api.Value{Kind: api.Text, S: s} }

func truth(b bool) api.Value {
	if b {
		return api.Value{Kind: api.Bool, N: 1}
	}
	return api.Value{Kind: api.Bool}
}

func list(vs ...api.Value) []api.Value { return vs }

// counting is n numbers from least on, no two the same.
func counting(least int64, n int) []api.Value {
	var vs []api.Value
	for i := range n {
		vs = append(vs, number(least+int64(i)))
	}
	return vs
}

// placeless is a fault that names no place.
func placeless(code api.Errno) api.Fault {
	return api.Fault{Code: code, Node: -1, Row: -1, Column: -1, Page: -1}
}

// raw is the text of these bytes.
func raw(bytes ...byte) string { return string(bytes) }

func zeros(n int) string { return strings.Repeat("\x00", n) }

func ones(n int) string { return strings.Repeat("\xff", n) }

// mustPack is the segment of values that can be written.
func mustPack(t *testing.T, typ, how int, vs []api.Value) string {
	t.Helper()
	s, f := colrun.Pack(typ, how, vs)
	if f != placeless(api.OK) {
		t.Fatalf("P3: Pack(%d, %d, %v): %+v", typ, how, vs, f)
	}
	return s
}

// mustUnpack is the values of a segment.
func mustUnpack(t *testing.T, segment string) []api.Value {
	t.Helper()
	_, vs, f := colrun.Unpack(segment)
	if f != placeless(api.OK) {
		t.Fatalf("P4: Unpack(%v): %+v", []byte(segment), f)
	}
	return vs
}

// dice are numbers that look thrown, the same in each run.
type dice struct{ state uint64 }

func (d *dice) word() uint64 {
	d.state = d.state*6364136223846793005 + 1442695040888963407
	return d.state ^ d.state>>33
}

func (d *dice) below(n int) int { return int(d.word() >> 11 % uint64(n)) }

// value is a value of the type, out of about so many different ones; sometimes NULL.
func (d *dice) value(typ, different int) api.Value {
	k := d.below(different)
	switch {
	case d.below(5) == 0:
		return null
	case typ == api.Bool:
		return truth(k%2 == 1)
	case typ == api.Text:
		return text(strings.Repeat("ab", k)[:min(k, api.MaxText)])
	case d.below(40) == 0:
		return number(int64(d.word()) >> d.below(64))
	}
	return number(int64(k) - 5)
}

func (d *dice) values(typ int) []api.Value {
	different := 1 + d.below(20)
	vs := make([]api.Value, d.below(api.MaxGroup+1))
	for i := range vs {
		if i > 0 && d.below(3) == 0 {
			vs[i] = vs[i-1]
		} else {
			vs[i] = d.value(typ, different)
		}
	}
	return vs
}

// model is a second Pack, of values that may be written so: all is put down as bits, as 0 and 1 in a text, the lowest first. False: more values than a dictionary holds.
func model(typ, how int, vs []api.Value) (string, bool) {
	held := ""
	var ms []api.Value
	for _, v := range vs {
		if v.Kind == api.Null {
			held += "0"
			continue
		}
		held += "1"
		ms = append(ms, v)
	}
	body, ok := modelBody(typ, how, ms)
	return raw(byte(typ), byte(how), byte(len(vs))) + fromBits(held) + body, ok
}

func modelBody(typ, how int, ms []api.Value) (string, bool) {
	out := ""
	switch how {
	case api.Plain:
		for _, v := range ms {
			out += modelValue(v)
		}
	case api.Dictionary:
		return modelDictionary(ms)
	case api.Runs:
		from := 0
		for i := range ms {
			if i+1 == len(ms) || ms[i+1] != ms[i] {
				out += raw(byte(i+1-from)) + modelValue(ms[i])
				from = i + 1
			}
		}
	case api.Packed:
		return modelPacked(typ, ms), true
	}
	return out, true
}

func modelDictionary(ms []api.Value) (string, bool) {
	numbers := map[api.Value]int{}
	words, indexes := "", ""
	for _, v := range ms {
		k, known := numbers[v]
		if !known {
			k = len(numbers)
			numbers[v] = k
			words += modelValue(v)
		}
		indexes += toBits(big.NewInt(int64(k)), 4)
	}
	return raw(byte(len(numbers))) + words + fromBits(indexes), len(numbers) <= 16
}

func modelPacked(typ int, ms []api.Value) string {
	if len(ms) == 0 {
		return ""
	}
	var ns []*big.Int
	for _, v := range ms {
		ns = append(ns, big.NewInt(v.N))
	}
	head, least, width := "", big.NewInt(0), 1
	if typ == api.Int {
		least = slices.MinFunc(ns, (*big.Int).Cmp)
		most := slices.MaxFunc(ns, (*big.Int).Cmp)
		width = new(big.Int).Sub(most, least).BitLen()
		head = modelValue(number(least.Int64())) + raw(byte(width))
	}
	diffs := ""
	for _, n := range ns {
		diffs += toBits(new(big.Int).Sub(n, least), width)
	}
	return head + fromBits(diffs)
}

func modelValue(v api.Value) string {
	switch v.Kind {
	case api.Int:
		n := big.NewInt(v.N)
		if v.N < 0 {
			n.Add(n, new(big.Int).Lsh(big.NewInt(1), 64))
		}
		return fromBits(toBits(n, 64))
	case api.Bool:
		return raw(byte(v.N))
	}
	return raw(byte(len(v.S))) + v.S
}

func toBits(n *big.Int, width int) string {
	out := ""
	for i := range width {
		out += string(rune('0' + n.Bit(i)))
	}
	return out
}

func fromBits(bits string) string {
	for len(bits)%8 != 0 {
		bits += "0"
	}
	var out []byte
	for ; bits != ""; bits = bits[8:] {
		b := byte(0)
		for i := range 8 {
			b += (bits[i] - '0') << i
		}
		out = append(out, b)
	}
	return string(out)
}
