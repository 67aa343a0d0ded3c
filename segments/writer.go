package segments

import (
	"math/bits"
	"slices"

	"colrun/api"
)

// writer puts together the bytes of a segment.
type writer struct {
	typ int
	out []byte
}

// ways are the ways of writing, by their numbers; each takes the values that are not NULL.
func (w *writer) ways() [4]func([]api.Value) {
	return [4]func([]api.Value){
		api.Plain:      w.plain,
		api.Dictionary: w.dictionary,
		api.Runs:       w.runs,
		api.Packed:     w.packed,
	}
}

// head writes what all ways have in common.
func (w *writer) head(how int, vs []api.Value) {
	w.small(w.typ)
	w.small(how)
	w.small(len(vs))
	held := make([]uint64, len(vs))
	for i, v := range vs {
		if v.Kind != api.Null {
			held[i] = 1
		}
	}
	w.fields(1, held)
}

func (w *writer) plain(vs []api.Value) {
	for _, v := range vs {
		w.value(v)
	}
}

func (w *writer) dictionary(vs []api.Value) {
	words := different(vs)
	w.small(len(words))
	w.plain(words)
	which := make([]uint64, len(vs))
	for i, v := range vs {
		which[i] = uint64(slices.Index(words, v))
	}
	w.fields(indexBits, which)
}

func (w *writer) runs(vs []api.Value) {
	for len(vs) > 0 {
		n := runLength(vs)
		w.small(n)
		w.value(vs[0])
		vs = vs[n:]
	}
}

func (w *writer) packed(vs []api.Value) {
	if w.typ == api.Bool {
		w.fields(1, differences(vs, 0))
		return
	}
	if len(vs) == 0 {
		return
	}
	least := leastNumber(vs)
	diffs := differences(vs, least)
	width := bits.Len64(slices.Max(diffs))
	w.number(least)
	w.small(width)
	w.fields(width, diffs)
}

// value writes a value's bytes.
func (w *writer) value(v api.Value) {
	switch v.Kind {
	case api.Int:
		w.number(v.N)
	case api.Bool:
		w.small(int(v.N))
	case api.Text:
		w.small(len(v.S))
		w.out = append(w.out, v.S...)
	}
}

// small writes a number that one byte holds.
func (w *writer) small(n int) {
	w.out = append(w.out, byte(n))
}

func (w *writer) number(n int64) {
	for i := range 8 {
		w.out = append(w.out, byte(uint64(n)>>(8*i)))
	}
}

// fields writes numbers of so many bits, one behind the other, from the lowest bit of the first byte on.
func (w *writer) fields(width int, ns []uint64) {
	packed := make([]byte, bytesFor(width*len(ns)))
	at := 0
	for _, n := range ns {
		for b := range width {
			packed[at/8] |= byte(n>>b&1) << (at % 8)
			at++
		}
	}
	w.out = append(w.out, packed...)
}

// bytesFor is how many bytes so many bits take.
func bytesFor(bitCount int) int {
	return (bitCount + 7) / 8
}

func withoutNulls(vs []api.Value) []api.Value {
	var held []api.Value
	for _, v := range vs {
		if v.Kind != api.Null {
			held = append(held, v)
		}
	}
	return held
}

// different is each value once, in the order in which they first come.
func different(vs []api.Value) []api.Value {
	var words []api.Value
	for _, v := range vs {
		if !slices.Contains(words, v) {
			words = append(words, v)
		}
	}
	return words
}

// runLength is how many values from the first on are the same.
func runLength(vs []api.Value) int {
	n := 1
	for n < len(vs) && vs[n] == vs[0] {
		n++
	}
	return n
}

func leastNumber(vs []api.Value) int64 {
	least := vs[0].N
	for _, v := range vs {
		least = min(least, v.N)
	}
	return least
}

// differences are the values' numbers less the least one. They may need all 64 bits, so they have no sign: the wrap-round comes out right.
func differences(vs []api.Value, least int64) []uint64 {
	diffs := make([]uint64, len(vs))
	for i, v := range vs {
		diffs[i] = uint64(v.N) - uint64(least)
	}
	return diffs
}
