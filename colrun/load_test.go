package colrun_test

import (
	"math"
	"slices"
	"strings"
	"testing"

	"colrun/api"
	"colrun/colrun"
)

// waysOf are the ways in which values of a type can be written.
func waysOf(typ int) []int {
	if typ == api.Text {
		return hows(api.Plain, api.Dictionary, api.Runs)
	}
	return hows(api.Plain, api.Dictionary, api.Runs, api.Packed)
}

// few are n values of the type, some of them NULL, of not more than 16 different ones.
func few(typ, n int) []api.Value {
	var vs []api.Value
	for i := range n {
		k := i / 2 % 7
		switch {
		case i%5 == 3:
			vs = append(vs, null)
		case typ == api.Int:
			vs = append(vs, number(int64(k)*math.MaxInt64/6-3))
		case typ == api.Bool:
			vs = append(vs, truth(k%2 == 0))
		default:
			vs = append(vs, text(strings.Repeat("\xffx", k)))
		}
	}
	return vs
}

func TestNewIsEmpty(t *testing.T) {
	for _, d := range []api.Disk{{}, roomy, {Quota: -1, Fail: -1}, {Quota: math.MaxInt, Fail: math.MaxInt}, {Quota: math.MinInt, Fail: math.MinInt}} {
		s := colrun.New(d)
		if s == nil {
			t.Fatalf("P5: New(%+v) = nil", d)
		}
		names(t, s)
		used(t, s, 0)
		isNotRead(t, s, "t", placeless(api.ErrTable))
	}
}

func TestLoadOfTheDocument(t *testing.T) {
	s := colrun.New(roomy)
	load(t, s, documentTable(), hows(api.Plain, api.Dictionary), 2, placeless(api.OK))
	used(t, s, 4)
	names(t, s, "t")
	reads(t, s, "t", documentTable().Rows)
}

// TestLoadEachTypeAndWay loads one column of each type, in each way, in groups of several sizes.
func TestLoadEachTypeAndWay(t *testing.T) {
	for _, typ := range types(api.Int, api.Bool, api.Text) {
		for _, how := range waysOf(typ) {
			for _, n := range []int{0, 1, 2, 63, 64, 65, 130, 199, 200} {
				for _, group := range []int{1, 2, 3, 7, 8, 9, 63, 64} {
					x := inOneColumn("x", typ, few(typ, n))
					s := colrun.New(roomy)
					load(t, s, x, hows(how), group, placeless(api.OK))
					reads(t, s, "x", x.Rows)
					used(t, s, modelPages(x, hows(how), group))
				}
			}
		}
	}
}

// TestLoadOfSeveralColumns loads six columns, each in another way.
func TestLoadOfSeveralColumns(t *testing.T) {
	x := table("six", types(api.Text, api.Int, api.Bool, api.Int, api.Text, api.Bool))
	ways := hows(api.Dictionary, api.Packed, api.Packed, api.Runs, api.Plain, api.Runs)
	for i := range 150 {
		r := row()
		for c, typ := range x.Types {
			r = append(r, few(typ, 200)[i+c])
		}
		x.Rows = append(x.Rows, r)
	}
	for group := 1; group <= 64; group++ {
		s := colrun.New(roomy)
		load(t, s, x, ways, group, placeless(api.OK))
		reads(t, s, "six", x.Rows)
		used(t, s, modelPages(x, ways, group))
	}
}

// modelPages is how many pages a table takes.
func modelPages(x api.Table, hows []int, group int) int {
	n := 0
	for _, segment := range modelSegments(x, hows, group) {
		n += (len(segment) + 55) / 56
	}
	return n
}

// modelSegments are a table's segments, of values that may be written so.
func modelSegments(x api.Table, hows []int, group int) []string {
	var l []string
	for from := 0; from < len(x.Rows); from += group {
		for c, typ := range x.Types {
			var vs []api.Value
			for _, r := range x.Rows[from:min(from+group, len(x.Rows))] {
				vs = append(vs, r[c])
			}
			segment, _ := model(typ, hows[c], vs)
			l = append(l, segment)
		}
	}
	return l
}

// textsOf is texts of so many bytes each; plainly, as one segment, they take a head of four bytes and one more for each text.
func textsOf(lengths ...int) api.Table {
	var vs []api.Value
	for _, n := range lengths {
		vs = append(vs, text(strings.Repeat("y", n)))
	}
	return inOneColumn("texts", api.Text, vs)
}

func TestPagesOfASegment(t *testing.T) {
	for _, c := range []struct {
		name  string
		table api.Table
		pages int
	}{
		{"5 bytes", textsOf(0), 1},
		{"55 bytes", textsOf(40, 9), 1},
		{"56 bytes", textsOf(40, 10), 1},
		{"57 bytes", textsOf(40, 11), 2},
		{"111 bytes", textsOf(40, 40, 24), 2},
		{"112 bytes", textsOf(40, 40, 25), 2},
		{"113 bytes", textsOf(40, 40, 26), 3},
		{"168 bytes", textsOf(40, 40, 40, 40), 3},
		{"169 bytes", textsOf(40, 40, 40, 40, 0), 4},
		{"the greatest one, 2635 bytes", inOneColumn("texts", api.Text, slices.Repeat(list(text(strings.Repeat("z", 40))), 64)), 48},
	} {
		s := colrun.New(roomy)
		load(t, s, c.table, hows(api.Plain), 64, placeless(api.OK))
		if s.Used() != c.pages {
			t.Errorf("P5: a segment of %s lies on %d pages, want %d", c.name, s.Used(), c.pages)
		}
		reads(t, s, "texts", c.table.Rows)
		pagesAre(t, s, "texts", upTo(0, c.pages)...)
	}
}

// TestEachSegmentHasPagesOfItsOwn: small segments do not share a page.
func TestEachSegmentHasPagesOfItsOwn(t *testing.T) {
	x := inOneColumn("x", api.Bool, slices.Repeat(list(truth(true)), 100))
	for _, c := range []struct{ group, pages int }{{1, 100}, {2, 50}, {3, 34}, {33, 4}, {49, 3}, {50, 2}, {64, 2}} {
		s := colrun.New(roomy)
		load(t, s, x, hows(api.Packed), c.group, placeless(api.OK))
		if s.Used() != c.pages {
			t.Errorf("P5: 100 rows in groups of %d: %d pages, want %d", c.group, s.Used(), c.pages)
		}
		reads(t, s, "x", x.Rows)
	}
}

func TestLoadAtTheEdges(t *testing.T) {
	six := table("x", types(1, 2, 3, 3, 2, 1), make(api.Row, 6), make(api.Row, 6))
	for _, c := range []struct {
		name  string
		table api.Table
		hows  []int
		group int
		pages int
	}{
		{"no rows", table("x", types(api.Int, api.Text)), hows(api.Packed, api.Dictionary), 1, 0},
		{"rows that are no list at all", api.Table{Name: "x", Types: types(api.Bool), Rows: nil}, hows(api.Runs), 64, 0},
		{"200 rows", ofPages("x", 200), hows(api.Plain), 1, 200},
		{"six columns", six, make([]int, 6), 2, 6},
		{"a name of one byte", ofPages("\x00", 1), hows(api.Plain), 1, 1},
		{"a name of 20 bytes", ofPages(strings.Repeat("\xff", 20), 1), hows(api.Plain), 1, 1},
		{"a group of one", ofPages("x", 3), hows(api.Plain), 1, 3},
		{"a group of 64", inOneColumn("x", api.Bool, slices.Repeat(list(truth(true)), 64)), hows(api.Packed), 64, 1},
		{"one more than the group", inOneColumn("x", api.Bool, slices.Repeat(list(truth(true)), 65)), hows(api.Packed), 64, 2},
		{"sixteen different values and NULL", inOneColumn("x", api.Int, append(counting(0, 16), null)), hows(api.Dictionary), 17, 3},
	} {
		s := colrun.New(roomy)
		if f := s.Load(c.table, c.hows, c.group); f != placeless(api.OK) || s.Used() != c.pages {
			t.Errorf("P5: %s: %+v, %d pages, want %d", c.name, f, s.Used(), c.pages)
			continue
		}
		names(t, s, c.table.Name)
		reads(t, s, c.table.Name, c.table.Rows)
	}
}

// changed is the document's table under another name, changed.
func changed(by func(x *api.Table)) api.Table {
	x := documentTable()
	x.Name = "x"
	by(&x)
	return x
}

// notTables are tables that are none; the ways are plain, one for each column.
func notTables() map[string]api.Table {
	return map[string]api.Table{
		"no name":                changed(func(x *api.Table) { x.Name = "" }),
		"a name of 21 bytes":     changed(func(x *api.Table) { x.Name = strings.Repeat("x", 21) }),
		"a name of 21 bytes, 11": changed(func(x *api.Table) { x.Name = strings.Repeat("é", 10) + "e" }),
		"no columns":             table("x", nil),
		"no columns, rows":       table("x", types(), row(), row()),
		"seven columns":          table("x", types(1, 1, 1, 1, 1, 1, 1)),
		"seven columns, a row":   table("x", types(1, 1, 1, 1, 1, 1, 1), make(api.Row, 7)),
		"201 rows":               ofPages("x", 201),
		"a type 0":               table("x", types(1, 0)),
		"a type 4":               table("x", types(1, 4)),
		"a type -1":              table("x", types(-1)),
		"a type 257":             table("x", types(257)),
		"a short row":            changed(func(x *api.Table) { x.Rows[3] = x.Rows[3][:1] }),
		"a row of nothing":       changed(func(x *api.Table) { x.Rows[0] = nil }),
		"a long row":             changed(func(x *api.Table) { x.Rows[1] = append(x.Rows[1], null) }),
		"another type":           changed(func(x *api.Table) { x.Rows[3][1] = number(1) }),
		"a truth value":          changed(func(x *api.Table) { x.Rows[0][0] = truth(true) }),
		"a text for a number":    changed(func(x *api.Table) { x.Rows[0][0] = text("1") }),
		"a text of 41 bytes":     changed(func(x *api.Table) { x.Rows[2][1] = text(strings.Repeat("x", 41)) }),
		"a number with a text":   changed(func(x *api.Table) { x.Rows[2][0] = api.Value{Kind: 1, N: 1, S: "a"} }),
		"a text with a number":   changed(func(x *api.Table) { x.Rows[2][1] = api.Value{Kind: 3, N: 1, S: "a"} }),
		"NULL with a number":     changed(func(x *api.Table) { x.Rows[2][0] = api.Value{N: 1} }),
		"NULL with a text":       changed(func(x *api.Table) { x.Rows[2][1] = api.Value{S: "a"} }),
		"a kind 4":               changed(func(x *api.Table) { x.Rows[2][1] = api.Value{Kind: 4} }),
		"a kind -1":              changed(func(x *api.Table) { x.Rows[2][1] = api.Value{Kind: -1} }),
		"a truth value of 2":     table("x", types(2), row(api.Value{Kind: 2, N: 2})),
		"a truth value of -1":    table("x", types(2), row(truth(true)), row(api.Value{Kind: 2, N: -1})),
	}
}

func TestLoadRefusesWhatIsNoTable(t *testing.T) {
	for name, x := range notTables() {
		s := colrun.New(roomy)
		loadPages(t, s, "there", 2)
		if f := s.Load(x, make([]int, len(x.Types)), 2); f != placeless(api.ErrArg) {
			t.Errorf("P5: a table with %s: %+v", name, f)
		}
		names(t, s, "there")
		used(t, s, 2)
	}
}

func TestLoadRefusesWaysAndGroups(t *testing.T) {
	x := table("x", types(api.Int, api.Text, api.Bool), row(number(1), text("a"), truth(true)))
	empty := table("x", x.Types)
	for _, c := range []struct {
		hows  []int
		group int
	}{
		{nil, 1}, {hows(), 1}, {hows(0, 0), 1}, {hows(0, 0, 0, 0), 1}, // too few, too many
		{hows(4, 0, 0), 1}, {hows(-1, 0, 0), 1}, {hows(0, 0, 4), 1}, {hows(0, 0, 256), 1}, // none
		{hows(0, 3, 0), 1}, {hows(3, 3, 3), 1}, // not for texts
		{hows(0, 0, 0), 0}, {hows(0, 0, 0), 65}, {hows(0, 0, 0), -1}, {hows(0, 0, 0), math.MinInt}, {hows(0, 0, 0), math.MaxInt}, {hows(0, 0, 0), 1<<32 + 1},
	} {
		for _, x := range []api.Table{x, empty} {
			s := colrun.New(roomy)
			if f := s.Load(x, c.hows, c.group); f != placeless(api.ErrArg) {
				t.Errorf("P5: %d rows as %v, in groups of %d: %+v", len(x.Rows), c.hows, c.group, f)
			}
			names(t, s)
			used(t, s, 0)
			load(t, s, x, hows(3, 2, 3), 64, placeless(api.OK))
		}
	}
}

func TestLoadRefusesANameThatIsThere(t *testing.T) {
	s := colrun.New(roomy)
	loadPages(t, s, "a", 3)
	loadPages(t, s, "b", 0)
	for _, name := range []string{"a", "b"} {
		load(t, s, ofPages(name, 1), hows(0), 1, placeless(api.ErrTable))
		load(t, s, documentTableAs(name), hows(0, 0), 1, placeless(api.ErrTable))
	}
	used(t, s, 3)
	names(t, s, "a", "b")
	reads(t, s, "a", ofPages("a", 3).Rows)
	loadPages(t, s, "A", 1)
	loadPages(t, s, "a ", 1)
	loadPages(t, s, "aa", 1)
	names(t, s, "a", "b", "A", "a ", "aa")
	drop(t, s, "a")
	loadPages(t, s, "a", 1)
	names(t, s, "b", "A", "a ", "aa", "a")
}

func documentTableAs(name string) api.Table { return changed(func(x *api.Table) { x.Name = name }) }

func TestLoadOfSixTablesAndOneMore(t *testing.T) {
	s := colrun.New(roomy)
	six := []string{"a", "b", "c", "d", "e", "f"}
	for i, name := range six {
		loadPages(t, s, name, i)
	}
	used(t, s, 15)
	load(t, s, ofPages("g", 0), hows(0), 1, placeless(api.ErrTable))
	load(t, s, ofPages("g", 2), hows(0), 1, placeless(api.ErrTable))
	load(t, s, ofPages("a", 2), hows(0), 1, placeless(api.ErrTable))
	used(t, s, 15)
	names(t, s, six...)
	drop(t, s, "c")
	loadPages(t, s, "g", 2)
	names(t, s, "a", "b", "d", "e", "f", "g")
	load(t, s, ofPages("c", 2), hows(0), 1, placeless(api.ErrTable))
}

// TestLoadRefusesDictionaries: of the first group for which a segment cannot be written, the first column.
func TestLoadRefusesDictionaries(t *testing.T) {
	x := table("x", types(api.Bool, api.Int, api.Int, api.Text))
	for i := range 80 {
		late, early := int64(i/40*i), int64(i)
		if i >= 40 {
			early = 7
		}
		x.Rows = append(x.Rows, row(truth(i%2 == 0), number(late), number(early), text(strings.Repeat("x", i%18))))
	}
	for _, c := range []struct {
		hows  []int
		group int
		want  api.Fault
	}{
		{hows(1, 1, 1, 1), 16, placeless(api.OK)},
		{hows(1, 1, 1, 1), 17, atColumn(2)},
		{hows(1, 1, 0, 0), 17, atColumn(1)},
		{hows(1, 1, 0, 1), 40, atColumn(3)},
		{hows(1, 1, 1, 1), 40, atColumn(2)},
		{hows(1, 1, 2, 2), 40, atColumn(1)},
		{hows(1, 0, 1, 0), 40, atColumn(2)},
		{hows(1, 1, 1, 0), 64, atColumn(1)},
		{hows(1, 0, 0, 1), 18, atColumn(3)},
		{hows(1, 0, 3, 0), 64, placeless(api.OK)},
	} {
		s := colrun.New(roomy)
		load(t, s, x, c.hows, c.group, c.want)
		if c.want != placeless(api.OK) {
			names(t, s)
			used(t, s, 0)
		} else {
			reads(t, s, "x", x.Rows)
		}
	}
}

// TestLoadOrderOfErrors: several errors at once; the one that the promise names first is answered.
func TestLoadOrderOfErrors(t *testing.T) {
	full := func(fail int) *colrun.Store {
		s := colrun.New(api.Disk{Quota: 5, Fail: fail})
		loadPages(t, s, "a", 5)
		return s
	}
	seventeen := inOneColumn("x", api.Int, counting(0, 17))
	noTable := inOneColumn("a", api.Int, append(counting(0, 17), text("")))
	there := inOneColumn("a", api.Int, counting(0, 17))
	sixth := func(s *colrun.Store) *colrun.Store {
		for _, name := range []string{"b", "c", "d", "e", "f"} {
			loadPages(t, s, name, 0)
		}
		return s
	}
	for _, c := range []struct {
		name  string
		store *colrun.Store
		table api.Table
		how   int
		group int
		want  api.Fault
	}{
		{"no table, its name there, a dictionary, a full disk", full(6), noTable, 1, 17, placeless(api.ErrArg)},
		{"no way, the name there", full(6), there, 4, 17, placeless(api.ErrArg)},
		{"no group, the name there", full(6), there, 1, 65, placeless(api.ErrArg)},
		{"no group, six tables", sixth(full(6)), seventeen, 1, 0, placeless(api.ErrArg)},
		{"the name there, a dictionary, a full disk", full(6), there, 1, 17, placeless(api.ErrTable)},
		{"six tables, a dictionary, a full disk", sixth(full(6)), seventeen, 1, 17, placeless(api.ErrTable)},
		{"a dictionary, a full disk", full(6), seventeen, 1, 17, atColumn(0)},
		{"a dictionary in the last group, a full disk", full(6), inOneColumn("x", api.Int, append(make([]api.Value, 34), counting(0, 17)...)), 1, 17, atColumn(0)},
		{"a full disk ahead of a write that would fail", full(6), seventeen, 0, 17, placeless(api.ErrQuota)},
		{"a dictionary, and a write that would fail", colrun.New(api.Disk{Quota: 9, Fail: 1}), seventeen, 1, 17, atColumn(0)},
		{"a write that fails ahead of a full disk", colrun.New(api.Disk{Quota: 1, Fail: 1}), seventeen, 0, 17, placeless(api.ErrWrite)},
		{"a full disk ahead of the second write", colrun.New(api.Disk{Quota: 1, Fail: 2}), seventeen, 0, 17, placeless(api.ErrQuota)},
	} {
		before, tables := c.store.Used(), c.store.Tables()
		if f := c.store.Load(c.table, hows(c.how), c.group); f != c.want {
			t.Errorf("P1, P5: %s: %+v, want %+v", c.name, f, c.want)
		}
		used(t, c.store, before)
		names(t, c.store, tables...)
	}
}
