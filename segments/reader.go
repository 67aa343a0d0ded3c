package segments

import (
	"strings"

	"colrun/api"
)

// reader takes a segment apart, from its beginning on. Where it cannot go on it panics with ErrForm, which Unpack catches. It asks no more than it needs to go on: Unpack asks the rest.
type reader struct {
	typ  int
	left string
}

// ways are the ways of reading, by their numbers; each gives so many values, none of them NULL.
func (r *reader) ways() [4]func(int) []api.Value {
	return [4]func(int) []api.Value{
		api.Plain:      r.plain,
		api.Dictionary: r.dictionary,
		api.Runs:       r.runs,
		api.Packed:     r.packed,
	}
}

// head reads the type, how the values are written, and how many there are.
func (r *reader) head() (how int, n int) {
	r.typ = r.small()
	how = r.small()
	n = r.small()
	need(CanBe(r.typ, how) && n <= api.MaxGroup)
	return how, n
}

// values reads n values, some of which may be NULL.
func (r *reader) values(how int, n int) []api.Value {
	held := r.fields(1, n)
	m := 0
	for _, h := range held {
		m += int(h)
	}
	return amongNulls(held, r.ways()[how](m))
}

// amongNulls lays the values where held has a 1, in order.
func amongNulls(held []uint64, vs []api.Value) []api.Value {
	all := make([]api.Value, len(held))
	next := 0
	for i, h := range held {
		if h == 1 {
			all[i] = vs[next]
			next++
		}
	}
	return all
}

func (r *reader) plain(m int) []api.Value {
	vs := make([]api.Value, m)
	for i := range vs {
		vs[i] = r.value()
	}
	return vs
}

func (r *reader) dictionary(m int) []api.Value {
	words := r.plain(r.small())
	vs := make([]api.Value, m)
	for i, k := range r.fields(indexBits, m) {
		need(k < uint64(len(words)))
		vs[i] = words[k]
	}
	return vs
}

func (r *reader) runs(m int) []api.Value {
	var vs []api.Value
	for len(vs) < m {
		n := r.small()
		need(n >= 1 && n <= m-len(vs))
		v := r.value()
		for range n {
			vs = append(vs, v)
		}
	}
	return vs
}

func (r *reader) packed(m int) []api.Value {
	if r.typ == api.Bool {
		return r.above(0, r.fields(1, m))
	}
	if m == 0 {
		return nil
	}
	least := r.number()
	width := r.small()
	need(width <= 64)
	return r.above(least, r.fields(width, m))
}

// above are the values that lie so far above the least one.
func (r *reader) above(least int64, diffs []uint64) []api.Value {
	vs := make([]api.Value, len(diffs))
	for i, d := range diffs {
		vs[i] = api.Value{Kind: r.typ, N: int64(uint64(least) + d)}
	}
	return vs
}

// value reads a value's bytes.
func (r *reader) value() api.Value {
	switch r.typ {
	case api.Int:
		return api.Value{Kind: api.Int, N: r.number()}
	case api.Bool:
		return api.Value{Kind: api.Bool, N: int64(r.small())}
	}
	// A copy: a piece would keep the whole segment.
	return api.Value{Kind: api.Text, S: strings.Clone(r.take(r.small()))}
}

func (r *reader) small() int {
	return int(r.take(1)[0])
}

func (r *reader) number() int64 {
	var n uint64
	for i, b := range []byte(r.take(8)) {
		n |= uint64(b) << (8 * i)
	}
	return int64(n)
}

// fields reads so many numbers of so many bits.
func (r *reader) fields(width int, count int) []uint64 {
	packed := r.take(bytesFor(width * count))
	ns := make([]uint64, count)
	at := 0
	for i := range ns {
		for b := range width {
			ns[i] |= uint64(packed[at/8]>>(at%8)&1) << b
			at++
		}
	}
	return ns
}

// take gives the next n bytes.
func (r *reader) take(n int) string {
	need(n <= len(r.left))
	piece := r.left[:n]
	r.left = r.left[n:]
	return piece
}

// need gives up if what must be is not.
func need(holds bool) {
	if !holds {
		panic(ErrForm)
	}
}
