package colrun_test

import (
	"slices"
	"strconv"
	"testing"

	"colrun/api"
	"colrun/colrun"
)

// meantOrSpoilt fails unless the plan answers what it means, or ErrPage of one of these pages, in a Scan; it tells which.
func meantOrSpoilt(t *testing.T, s *colrun.Store, p api.Plan, o api.Options, want []api.Row, fault api.Fault, spoilt []int) api.Errno {
	t.Helper()
	before := s.Used()
	got, f := s.Run(p, o)
	if s.Used() != before {
		t.Fatalf("P12: %d pages in use, want %d", s.Used(), before)
	}
	if f == fault && sameRows(got, want) {
		return f.Code
	}
	place := atPage(f.Page)
	place.Node = f.Node
	if f != place || got != nil || !slices.Contains(spoilt, f.Page) || f.Node < 0 || p.Nodes[f.Node].Op != api.Scan {
		t.Fatalf("P12: %+v with the pages %v spoilt: %+v, %d rows, want %+v, or ErrPage of one of these in a Scan", p, spoilt, f, len(got), fault)
	}
	return f.Code
}

// TestRunReadsSpoiltPages: with one byte of a page turned, for each page and each byte of it; turned back, all is as it was.
func TestRunReadsSpoiltPages(t *testing.T) {
	f := factsTable()
	s := loadedPlainly(t, roomy, documentTable(), f)
	p := plan(scan("t"), scan("facts"), project(0, expr(col(0))), project(1, expr(col(3)), expr(col(0))), join(3, 2, api.Left, pair(1, 0)))
	want, fault := meant(p, []api.Table{documentTable(), f})
	own := map[string][]int{"t": pagesOf(t, s, "t"), "facts": pagesOf(t, s, "facts")}
	node := map[string]int{"t": 0, "facts": 1}
	for name, pages := range own {
		for _, page := range pages {
			for at := range api.PageSize {
				by := 1 + (page*31+at*7)%255
				spoil(t, s, page, at, by)
				meantOrSpoilt(t, s, p, someOptions[at%5], want, fault, []int{page})
				// A plan that is this table has no way around the page.
				alone := atPage(page)
				answersBy(t, s, "a spoilt page", plan(scan(name)), someOptions[at%5], nil, inScan(alone, 0))
				if got, g := s.Run(p, someOptions[0]); g.Code != api.OK && g != inScan(alone, node[name]) {
					t.Fatalf("P10: the page %d of %q is spoilt: %v, %+v", page, name, got, g)
				}
				spoil(t, s, page, at, by)
				answersBy(t, s, "turned back", p, someOptions[at%5], want, fault)
			}
		}
	}
}

// inScan is the fault of a page that a Scan read.
func inScan(f api.Fault, node int) api.Fault {
	f.Node = node
	return f
}

// TestSpoiltPagesAndOtherFaults: a page is noticed when its Scan is worked, behind ErrPlan and ErrArg, and ahead of all in later nodes.
func TestSpoiltPagesAndOtherFaults(t *testing.T) {
	s := loadedPlainly(t, roomy, documentTable(), factsTable())
	first, second := pagesOf(t, s, "t")[0], pagesOf(t, s, "facts")[0]
	spoil(t, s, second, 3, 4)
	faults(t, s, "no such table", plan(scan("facts"), scan("u"), union(0, 1)), atNode(1))
	answersBy(t, s, "wrong options", plan(scan("facts")), api.Options{}, nil, placeless(api.ErrArg))
	early := plan(scan("t"), project(0, byZero(0, 2)), scan("facts"), project(2, expr(col(0))), union(1, 3))
	faults(t, s, "a division in an earlier node", early, atRow(api.ErrDivide, 1, 1))
	early.Nodes[1] = project(0, expr(col(0)))
	faults(t, s, "a page of a later node", early, inScan(atPage(second), 2))
	spoil(t, s, first, 60, 255)
	faults(t, s, "a page of the first node", early, inScan(atPage(first), 0))
	late := plan(scan("facts"), scan("t"), project(1, expr(col(0))), project(0, expr(col(0))), union(2, 3))
	faults(t, s, "the other way round", late, inScan(atPage(second), 0))
	for _, page := range []int{first, second} {
		if got := s.Used(); !s.Spoil(page, 0, 1) || !s.Spoil(page, 0, 1) || got != s.Used() {
			t.Errorf("P8: the page %d is not in use", page)
		}
	}
	spoil(t, s, first, 60, 255)
	spoil(t, s, second, 3, 4)
	want, fault := meant(early, []api.Table{documentTable(), factsTable()})
	answers(t, s, "turned back", early, want, fault)
}

// TestThrownPlansOnSpoiltPages: some pages with one byte turned each.
func TestThrownPlansOnSpoiltPages(t *testing.T) {
	d := &dice{state: 61}
	seen := map[api.Errno]int{}
	for range 150 {
		tables := d.thrownTables(30)
		s := d.thrownStore(t, roomy, tables)
		if s.Used() == 0 {
			continue
		}
		var spoilt []int
		for range d.below(4) {
			page := d.below(s.Used())
			if !slices.Contains(spoilt, page) {
				spoilt = append(spoilt, page)
				spoil(t, s, page, d.below(64), 1+d.below(255))
			}
		}
		for range 6 {
			p := d.wholePlan()
			want, fault := meant(p, tables)
			seen[meantOrSpoilt(t, s, p, d.thrownOptions(), want, fault, spoilt)]++
		}
	}
	if seen[api.OK] < 50 || seen[api.ErrPage] < 50 {
		t.Errorf("too few of a kind: %v", seen)
	}
}

// TestAnyBytesSpoilt: whatever is turned, a run answers rows of the schema or ErrPage with a page, and leaves nothing; with all turned back it answers what it did.
func TestAnyBytesSpoilt(t *testing.T) {
	d := &dice{state: 71}
	tables, plans := diskPlans(30)
	for _, p := range slices.Delete(plans, 3, 5) { // those two divide by zero
		s := loadedPlainly(t, roomy, tables...)
		pages := s.Used()
		schema, _ := s.Check(p)
		want, fault := meant(p, tables)
		type turn struct{ page, at, by int }
		var turns []turn
		for round := range 120 {
			for range 1 + d.below(1+round*2) {
				x := turn{d.below(pages), d.below(64), 1 + d.below(255)}
				turns = append(turns, x)
				spoil(t, s, x.page, x.at, x.by)
			}
			got, f := s.Run(p, d.thrownOptions())
			if s.Used() != pages {
				t.Fatalf("P12: %d pages in use, want %d", s.Used(), pages)
			}
			if f.Code != api.OK && (f.Code != api.ErrPage || f.Page < 0 || f.Page >= pages || got != nil) && f != fault {
				t.Fatalf("P12: %+v, %d rows", f, len(got))
			}
			areOf(t, got, schema)
		}
		for _, x := range turns {
			spoil(t, s, x.page, x.at, x.by)
		}
		answers(t, s, "turned back", p, want, fault)
	}
}

// areOf fails unless the rows are of the schema. (Pack refuses what is no value of a type.)
func areOf(t *testing.T, rows []api.Row, schema []int) {
	t.Helper()
	for i, r := range rows {
		if len(r) != len(schema) {
			t.Fatalf("P10: the row %d has %d values, want %d", i, len(r), len(schema))
		}
		for c, v := range r {
			if _, f := colrun.Pack(schema[c], api.Plain, list(v)); f.Code != api.OK {
				t.Fatalf("P10: the row %d has %+v in the column %s, want the type %d", i, v, strconv.Itoa(c), schema[c])
			}
		}
	}
}
