package tables_test

import (
	"errors"
	"slices"
	"strings"
	"testing"

	"colrun/api"
	"colrun/disk"
	"colrun/segments"
	"colrun/tables"
)

func number(n int64) api.Value { return api.Value{Kind: api.Int, N: n} }

func text(s string) api.Value { return api.Value{Kind: api.Text, S: s} }

// sample is a table of numbers and texts.
func sample(n int) api.Table {
	t := api.Table{Name: "t", Types: []int{api.Int, api.Text}}
	for i := range n {
		t.Rows = append(t.Rows, api.Row{number(int64(i)), text(strings.Repeat("x", i%41))})
	}
	return t
}

func loaded(t *testing.T, x api.Table, hows []int, group int) (*disk.Disk, *tables.Set) {
	t.Helper()
	d := disk.New(api.Disk{Quota: 1000})
	s := tables.New(d)
	if err := s.Load(x, hows, group); err != nil {
		t.Fatal(err)
	}
	return d, s
}

// TestSegmentsLieInOrder reads the disk page by page: for each group, for each column, a segment.
func TestSegmentsLieInOrder(t *testing.T) {
	x := sample(30)
	d, _ := loaded(t, x, []int{api.Packed, api.Plain}, 7)
	page := 0
	for from := 0; from < len(x.Rows); from += 7 {
		for c, how := range []int{api.Packed, api.Plain} {
			var vs []api.Value
			for _, row := range x.Rows[from:min(from+7, len(x.Rows))] {
				vs = append(vs, row[c])
			}
			want, err := segments.Pack(x.Types[c], how, vs)
			if err != nil {
				t.Fatal(err)
			}
			for len(want) > 0 {
				n := min(len(want), api.PageBytes)
				if got, err := d.Read([]int{page}); err != nil || got != want[:n] {
					t.Fatalf("group from row %d on, column %d, page %d: %q, %v, want %q", from, c, page, got, err, want[:n])
				}
				want = want[n:]
				page++
			}
		}
	}
	if d.Used() != page {
		t.Errorf("%d pages in use, want %d", d.Used(), page)
	}
}

// TestPagesThatAreSpoiltUnnoticed lays other bytes where a segment lay, as if so many were turned that the disk does not notice it: what is not such a segment as it was is a spoilt page.
func TestPagesThatAreSpoiltUnnoticed(t *testing.T) {
	pack := func(typ, how int, vs ...api.Value) string {
		text, err := segments.Pack(typ, how, vs)
		if err != nil {
			t.Fatal(err)
		}
		return text
	}
	for name, other := range map[string]string{
		"no segment":        "abc",
		"bytes behind":      pack(api.Int, api.Plain, number(1), number(2)) + "\x00",
		"another type":      pack(api.Text, api.Plain, text("a"), text("b")),
		"truth values":      pack(api.Bool, api.Plain, api.Value{}, api.Value{}),
		"one value less":    pack(api.Int, api.Plain, number(1)),
		"one value more":    pack(api.Int, api.Packed, number(1), number(2), number(3)),
		"no values":         pack(api.Int, api.Plain),
		"no values, others": pack(api.Text, api.Dictionary),
	} {
		d, s := loaded(t, sample(4), []int{api.Plain, api.Plain}, 2)
		d.Release([]int{2})
		if pages, err := d.Lay(other); err != nil || len(pages) != 1 || pages[0] != 2 {
			t.Fatal(pages, err)
		}
		rows, err := s.Rows("t")
		var e *disk.Error
		if rows != nil || !errors.Is(err, disk.ErrPage) || !errors.As(err, &e) || e.Page != 2 {
			t.Errorf("%s: %v, %v", name, rows, err)
		}
	}
}

// TestTypes: the types are the caller's, and there are none of a table that is not there.
func TestTypes(t *testing.T) {
	_, s := loaded(t, sample(3), []int{api.Plain, api.Plain}, 2)
	for range 2 {
		types, ok := s.Types("t")
		if !ok || !slices.Equal(types, []int{api.Int, api.Text}) {
			t.Fatalf("Types = %v, %v", types, ok)
		}
		types[0], types[1] = 9, 9
	}
	if types, ok := s.Types("u"); ok || types != nil {
		t.Errorf("Types of no table = %v, %v", types, ok)
	}
	if rows, err := s.Rows("t"); err != nil || rows.Len() != 3 {
		t.Errorf("Rows = %v, %v", rows, err)
	}
}

// TestErrorsKnowTheirPlaces: the table's name and column are the set's, the page is the disk's; both come out of one chain.
func TestErrorsKnowTheirPlaces(t *testing.T) {
	x := sample(20)
	d := disk.New(api.Disk{Quota: 1})
	s := tables.New(d)
	dictionary := s.Load(x, []int{api.Plain, api.Dictionary}, 20)
	quota := s.Load(x, []int{api.Plain, api.Plain}, 20)
	d, s = loaded(t, x, []int{api.Plain, api.Plain}, 20)
	d.Spoil(1, 1, 1)
	_, page := s.Rows("t")
	for _, c := range []struct {
		err, why error
		column   int
		ofDisk   bool
		page     int
	}{
		{dictionary, segments.ErrDict, 1, false, 0},
		{quota, disk.ErrQuota, api.None, true, api.None},
		{page, disk.ErrPage, api.None, true, 1},
	} {
		var e *tables.Error
		if !errors.Is(c.err, c.why) || !errors.As(c.err, &e) || e.Table != "t" || e.Column != c.column || e.Error() == "" {
			t.Errorf("%v: want %v of column %d", c.err, c.why, c.column)
		}
		var below *disk.Error
		if errors.As(c.err, &below) != c.ofDisk || c.ofDisk && below.Page != c.page {
			t.Errorf("%v: want page %d", c.err, c.page)
		}
	}
	for _, c := range []struct{ err, why error }{{s.Load(x, nil, 1), tables.ErrArg}, {s.Load(x, []int{0, 0}, 1), tables.ErrTable}, {s.Drop("u"), tables.ErrTable}} {
		if !errors.Is(c.err, c.why) {
			t.Errorf("%v, want %v", c.err, c.why)
		}
	}
}
