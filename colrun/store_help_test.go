package colrun_test

import (
	"slices"
	"testing"

	"colrun/api"
	"colrun/colrun"
)

// roomy is a disk on which all fits, and which never fails.
var roomy = api.Disk{Quota: 1 << 20}

func types(l ...int) []int { return l }

func hows(l ...int) []int { return l }

func row(vs ...api.Value) api.Row { return vs }

func table(name string, types []int, rows ...api.Row) api.Table {
	return api.Table{Name: name, Types: types, Rows: rows}
}

// documentTable is the document's table t.
func documentTable() api.Table {
	return table("t", types(api.Int, api.Text), row(number(1), text("a")), row(number(2), text("b")), row(null, text("a")), row(number(4), null))
}

// inOneColumn is a table of one column, of these values.
func inOneColumn(name string, typ int, vs []api.Value) api.Table {
	t := table(name, types(typ))
	for _, v := range vs {
		t.Rows = append(t.Rows, row(v))
	}
	return t
}

// ofPages is a table that takes n pages, if it is loaded plainly in groups of one.
func ofPages(name string, n int) api.Table { return inOneColumn(name, api.Int, counting(0, n)) }

// atPage is the fault of a page that is spoilt.
func atPage(page int) api.Fault {
	f := placeless(api.ErrPage)
	f.Page = page
	return f
}

// atColumn is the fault of a column with too many values for its dictionary.
func atColumn(column int) api.Fault {
	f := placeless(api.ErrDict)
	f.Column = column
	return f
}

func load(t *testing.T, s *colrun.Store, x api.Table, hows []int, group int, want api.Fault) {
	t.Helper()
	if f := s.Load(x, hows, group); f != want {
		t.Fatalf("P5: Load of %q as %v, in groups of %d: %+v, want %+v", x.Name, hows, group, f, want)
	}
}

// loadPages loads a table of n pages.
func loadPages(t *testing.T, s *colrun.Store, name string, n int) {
	t.Helper()
	load(t, s, ofPages(name, n), hows(api.Plain), 1, placeless(api.OK))
}

func drop(t *testing.T, s *colrun.Store, name string) {
	t.Helper()
	if f := s.Drop(name); f != placeless(api.OK) {
		t.Fatalf("P6: Drop of %q: %+v", name, f)
	}
}

func used(t *testing.T, s *colrun.Store, want int) {
	t.Helper()
	if n := s.Used(); n != want {
		t.Fatalf("P6: Used() = %d, want %d", n, want)
	}
}

func names(t *testing.T, s *colrun.Store, want ...string) {
	t.Helper()
	if l := s.Tables(); !slices.Equal(l, want) {
		t.Fatalf("P6: Tables() = %q, want %q", l, want)
	}
}

func spoil(t *testing.T, s *colrun.Store, page, at, by int) {
	t.Helper()
	if !s.Spoil(page, at, by) {
		t.Fatalf("P8: Spoil(%d, %d, %d) = false", page, at, by)
	}
}

func sameRows(a, b []api.Row) bool {
	return slices.EqualFunc(a, b, func(x, y api.Row) bool { return slices.Equal(x, y) })
}

func copyRows(rows []api.Row) []api.Row {
	var l []api.Row
	for _, r := range rows {
		l = append(l, slices.Clone(r))
	}
	return l
}

// reads fails unless the table has these rows.
func reads(t *testing.T, s *colrun.Store, name string, want []api.Row) {
	t.Helper()
	if rows, f := s.Scan(name); f != placeless(api.OK) || !sameRows(rows, want) {
		t.Fatalf("P7: Scan of %q: %+v, %v, want %v", name, f, rows, want)
	}
}

// isNotRead fails unless a Scan of the table has this fault, and no rows.
func isNotRead(t *testing.T, s *colrun.Store, name string, want api.Fault) {
	t.Helper()
	if rows, f := s.Scan(name); f != want || len(rows) != 0 {
		t.Fatalf("P7: Scan of %q: %+v, %v, want %+v", name, f, rows, want)
	}
}

// takenPages are the pages in use: those that can be spoilt. They are turned back at once.
func takenPages(t *testing.T, s *colrun.Store) []int {
	t.Helper()
	var pages []int
	for page := 0; len(pages) < s.Used(); page++ {
		if page > 100000 {
			t.Fatalf("P6, P8: %d pages are in use, and only %v can be spoilt", s.Used(), pages)
		}
		if s.Spoil(page, 0, 1) {
			s.Spoil(page, 0, 1)
			pages = append(pages, page)
		}
	}
	return pages
}

// pagesOf are a table's pages, in the order in which they were written: with all pages spoilt a Scan names the first of them, with this one turned back the next, and so on.
func pagesOf(t *testing.T, s *colrun.Store, name string) []int {
	t.Helper()
	others := takenPages(t, s)
	for _, page := range others {
		spoil(t, s, page, 5, 77)
	}
	var own []int
	for {
		_, f := s.Scan(name)
		i := slices.Index(others, f.Page)
		if f == placeless(api.OK) {
			break
		}
		if f != atPage(f.Page) || i < 0 {
			t.Fatalf("P7: Scan of %q, with spoilt pages %v: %+v", name, others, f)
		}
		spoil(t, s, f.Page, 5, 77)
		own = append(own, f.Page)
		others = slices.Delete(others, i, i+1)
	}
	for _, page := range others {
		spoil(t, s, page, 5, 77)
	}
	return own
}

func pagesAre(t *testing.T, s *colrun.Store, name string, want ...int) {
	t.Helper()
	if pages := pagesOf(t, s, name); !slices.Equal(pages, want) {
		t.Fatalf("Words, the disk: the pages of %q are %v, want %v", name, pages, want)
	}
}

// upTo is the numbers from first on, n of them.
func upTo(first, n int) []int {
	var l []int
	for i := range n {
		l = append(l, first+i)
	}
	return l
}
