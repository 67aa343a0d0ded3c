package colrun_test

import (
	"slices"
	"strings"
	"testing"

	"colrun/api"
	"colrun/colrun"
)

func TestUnpackReads(t *testing.T) {
	for _, c := range allWritten() {
		typ, vs, f := colrun.Unpack(c.segment)
		if typ != c.typ || !slices.Equal(vs, c.vs) || f != placeless(api.OK) {
			t.Errorf("P4: %s: %d, %v, %+v, want %d, %v", c.name, typ, vs, f, c.typ, c.vs)
		}
	}
}

func TestUnpackReadsWhatPackWrote(t *testing.T) {
	d := &dice{state: 2}
	for range 2000 {
		typ := 1 + d.below(3)
		vs := d.values(typ)
		for how := range 4 {
			s, f := colrun.Pack(typ, how, vs)
			if f.Code != api.OK {
				continue
			}
			if got, back, f := colrun.Unpack(s); got != typ || !slices.Equal(back, vs) || f != placeless(api.OK) {
				t.Fatalf("P4: of Pack(%d, %d, %v): %d, %v, %+v", typ, how, vs, got, back, f)
			}
		}
	}
}

func refused() []struct{ name, text string } {
	seven := raw(7) + zeros(7)
	return []struct{ name, text string }{
		{"nothing", ""},
		{"cut off behind the type", raw(1)},
		{"cut off behind the way", raw(1, 0)},
		{"cut off ahead of the NULL bits", raw(1, 0, 1)},
		{"cut off within the NULL bits", raw(1, 0, 9, 0)},
		{"type 0", raw(0, 0, 0)},
		{"type 4", raw(4, 0, 0)},
		{"type 255", raw(255, 0, 0)},
		{"way 4", raw(1, 4, 0)},
		{"way 255", raw(1, 255, 0)},
		{"texts packed", raw(3, 3, 0)},
		{"65 NULLs", raw(1, 0, 65) + zeros(9)},
		{"255 NULLs", raw(1, 0, 255) + zeros(32)},
		{"left-over NULL bit set", raw(1, 0, 1, 2)},
		{"highest left-over NULL bit set", raw(1, 0, 1, 128)},
		{"left-over NULL bit set, with a value for it", raw(2, 0, 1, 3, 1, 1)},

		{"byte behind, no values", raw(1, 0, 0, 0)},
		{"byte behind, plain", raw(2, 0, 1, 1, 1, 0)},
		{"byte behind, dictionary", raw(2, 1, 1, 1, 1, 1, 0, 0)},
		{"byte behind, runs", raw(2, 2, 1, 1, 1, 1, 0)},
		{"byte behind, packed truth values", raw(2, 3, 1, 1, 1, 0)},
		{"byte behind, packed numbers", raw(1, 3, 1, 1) + seven + raw(0, 0)},

		{"number of seven bytes", raw(1, 0, 1, 1) + zeros(7)},
		{"truth value cut off", raw(2, 0, 1, 1)},
		{"truth value 2", raw(2, 0, 1, 1, 2)},
		{"truth value 255", raw(2, 0, 1, 1, 255)},
		{"text without its length", raw(3, 0, 1, 1)},
		{"text cut off", raw(3, 0, 1, 1, 2, 97)},
		{"text of 41 bytes", raw(3, 0, 1, 1, 41) + strings.Repeat("x", 41)},
		{"text of 255 bytes", raw(3, 0, 1, 1, 255) + strings.Repeat("x", 255)},

		{"dictionary cut off ahead of its number", raw(3, 1, 0)},
		{"dictionary cut off in a word", raw(3, 1, 1, 1, 1, 2, 97)},
		{"dictionary cut off ahead of the indexes", raw(3, 1, 1, 1, 1, 1, 97)},
		{"dictionary cut off in the indexes", raw(3, 1, 3, 7, 1, 1, 97, 0)},
		{"left-over four bits set", raw(3, 1, 1, 1, 1, 1, 97, 16)},
		{"left-over four bits set, to a word that is there", raw(3, 1, 3, 7, 2, 1, 97, 1, 98, 16, 16)},
		{"index above the words", raw(3, 1, 1, 1, 1, 1, 97, 1)},
		{"index without words", raw(3, 1, 1, 1, 0, 0)},
		{"word that none names", raw(3, 1, 1, 1, 2, 1, 97, 1, 98, 0)},
		{"words for no values", raw(3, 1, 0, 1, 1, 97)},
		{"words not in the order of coming", raw(3, 1, 2, 3, 2, 1, 97, 1, 98, 1)},
		{"word twice", raw(3, 1, 2, 3, 2, 1, 97, 1, 97, 16)},
		{"word that is no truth value", raw(2, 1, 1, 1, 1, 2, 0)},
		{"word of 41 bytes", raw(3, 1, 1, 1, 1, 41) + strings.Repeat("x", 41) + raw(0)},
		{"dictionary of 17 words", raw(1, 1, 17) + ones(2) + raw(1, 17) + words(17) + zeros(9)},
		{"dictionary of 255 words", raw(3, 1, 1, 1, 255) + zeros(256)},

		{"runs cut off ahead of a length", raw(2, 2, 1, 1)},
		{"runs cut off ahead of a value", raw(2, 2, 1, 1, 1)},
		{"runs with too few values", raw(2, 2, 2, 3, 1, 1)},
		{"run longer than the values", raw(2, 2, 1, 1, 2, 1)},
		{"second run longer than the values", raw(2, 2, 2, 3, 1, 1, 2, 0)},
		{"run of 255", raw(2, 2, 2, 3, 255, 1)},
		{"run of none", raw(2, 2, 1, 1, 0, 0, 1, 1)},
		{"run of none behind", raw(2, 2, 1, 1, 1, 1, 0, 0)},
		{"run of none for no values", raw(2, 2, 0, 0, 0)},
		{"run that could be longer", raw(2, 2, 2, 3, 1, 1, 1, 1)},
		{"run of what is no truth value", raw(2, 2, 1, 1, 1, 2)},

		{"packed cut off in the least one", raw(1, 3, 1, 1) + zeros(7)},
		{"packed cut off ahead of the width", raw(1, 3, 1, 1) + seven},
		{"packed cut off ahead of the differences", raw(1, 3, 2, 3) + seven + raw(1)},
		{"packed cut off in the differences", raw(1, 3, 2, 3) + seven + raw(8, 0)},
		{"packed NULLs with a least one", raw(1, 3, 1, 0) + seven + raw(0)},
		{"packed NULLs with a width", raw(1, 3, 1, 0, 0)},
		{"width too great", raw(1, 3, 2, 3) + seven + raw(2, 4)},
		{"width 1 where 0 does", raw(1, 3, 1, 1) + seven + raw(1, 0)},
		{"width 64 where 63 does", raw(1, 3, 2, 3) + zeros(8) + raw(64) + zeros(8) + ones(7) + raw(127)},
		{"width 65", raw(1, 3, 1, 1) + seven + raw(65) + zeros(9)},
		{"width 255", raw(1, 3, 1, 1) + seven + raw(255) + zeros(32)},
		{"least one that is none of them", raw(1, 3, 2, 3) + seven + raw(1, 3)},
		{"left-over bits of the differences set", raw(1, 3, 2, 3) + seven + raw(1, 6)},
		{"difference beyond the greatest number", raw(1, 3, 2, 3) + ones(7) + raw(127, 1, 2)},
		{"truth bits cut off", raw(2, 3, 1, 1)},
		{"truth bits cut off behind eight", raw(2, 3, 9, 255, 1, 255)},
		{"left-over truth bits set", raw(2, 3, 1, 1, 3)},
		{"truth bits for NULLs", raw(2, 3, 1, 0, 0)},
	}
}

// words is so many different numbers' bytes.
func words(n int) string {
	s := ""
	for k := range n {
		s += raw(byte(k)) + zeros(7)
	}
	return s
}

func TestUnpackRefuses(t *testing.T) {
	for _, c := range refused() {
		if typ, vs, f := colrun.Unpack(c.text); typ != 0 || len(vs) != 0 || f != placeless(api.ErrForm) {
			t.Errorf("P4: %s: %d, %v, %+v", c.name, typ, vs, f)
		}
	}
}

// refusesOrReads fails unless the text is refused, or is just what Pack writes of what was read.
func refusesOrReads(t *testing.T, s string) {
	t.Helper()
	typ, vs, f := colrun.Unpack(s)
	if f == placeless(api.ErrForm) && typ == 0 && len(vs) == 0 {
		return
	}
	if f != placeless(api.OK) || len(s) < 2 {
		t.Fatalf("P4: Unpack(%v) = %d, %v, %+v", []byte(s), typ, vs, f)
	}
	if again, _ := colrun.Pack(typ, int(s[1]), vs); again != s {
		t.Fatalf("P4: Unpack(%v) = %d, %v, of which Pack makes %v", []byte(s), typ, vs, []byte(again))
	}
}

// TestUnpackOfChanged turns each byte of segments into each other one, cuts them off, and lays bytes behind.
func TestUnpackOfChanged(t *testing.T) {
	for _, c := range allWritten() {
		for at := range c.segment {
			refusesOrReads(t, c.segment[at:])
			if _, _, f := colrun.Unpack(c.segment[:at]); f != placeless(api.ErrForm) {
				t.Errorf("P4: %s, cut off behind %d bytes: %+v", c.name, at, f)
			}
			for b := range 256 {
				refusesOrReads(t, c.segment[:at]+raw(byte(b))+c.segment[at+1:])
			}
		}
		for b := range 256 {
			if _, _, f := colrun.Unpack(c.segment + raw(byte(b))); f != placeless(api.ErrForm) {
				t.Errorf("P4: %s, with the byte %d behind: %+v", c.name, b, f)
			}
		}
	}
}

// TestUnpackOfShort tries short texts: all heads, and bodies out of a few bytes.
func TestUnpackOfShort(t *testing.T) {
	bodies := []string{""}
	for from := 0; len(bodies[from]) < 5; from++ {
		for b := range 4 {
			bodies = append(bodies, bodies[from]+raw(byte(b)))
		}
	}
	for typ := range 5 {
		for how := range 5 {
			for _, n := range []int{0, 1, 2, 3, 8, 9, 64, 65, 255} {
				for _, body := range bodies {
					refusesOrReads(t, raw(byte(typ), byte(how), byte(n))+body)
				}
			}
		}
	}
}

// TestUnpackOfThrown changes several bytes of segments at once.
func TestUnpackOfThrown(t *testing.T) {
	d := &dice{state: 3}
	for range 5000 {
		typ := 1 + d.below(3)
		s, f := colrun.Pack(typ, d.below(4), d.values(typ))
		if f.Code != api.OK {
			continue
		}
		b := []byte(s)
		for range 1 + d.below(3) {
			b[d.below(len(b))] ^= byte(1 << d.below(8))
		}
		refusesOrReads(t, string(b))
	}
}
