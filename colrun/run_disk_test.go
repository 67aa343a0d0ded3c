package colrun_test

import (
	"slices"
	"testing"

	"colrun/api"
	"colrun/colrun"
)

// loadedPlainly is a store on the disk with these tables.
func loadedPlainly(t *testing.T, d api.Disk, tables ...api.Table) *colrun.Store {
	t.Helper()
	s := colrun.New(d)
	for _, x := range tables {
		load(t, s, x, make([]int, len(x.Types)), 5, placeless(api.OK))
	}
	return s
}

// diskPlans are plans with Sorts in them, at several places, over the tables mixed, of n rows, and facts.
func diskPlans(n int) ([]api.Table, []api.Plan) {
	tables := []api.Table{mixedTable(n), factsTable()}
	return tables, []api.Plan{
		plan(scan("mixed"), sorted(0, key(0))),
		plan(scan("mixed"), sorted(0, down(1), key(0)), limit(1, 3)),
		plan(scan("facts"), scan("mixed"), sorted(1, key(2), down(3)), join(0, 2, api.Left, pair(0, 0)), sorted(3, key(4)), group(4, told(4, 0), told(0, 1))),
		plan(scan("mixed"), sorted(0, key(1)), project(1, byZero(3, 7))),
		plan(scan("mixed"), project(0, byZero(3, 7)), sorted(1, key(0))),
		plan(scan("mixed"), scan("mixed"), join(0, 1, api.Inner, pair(2, 2)), sorted(2, key(0)), limit(3, 5)),
	}
}

// sortNodes are the numbers of a plan's Sorts.
func sortNodes(p api.Plan) []int {
	var l []int
	for i, n := range p.Nodes {
		if n.Op == api.Sort {
			l = append(l, i)
		}
	}
	return l
}

// meantOrDisk fails unless the plan answers what it means, or the disk's error in a Sort ahead of the node that has the fault; it tells which. The pages in use stay the same.
func meantOrDisk(t *testing.T, s *colrun.Store, p api.Plan, o api.Options, want []api.Row, fault api.Fault, codes ...api.Errno) api.Errno {
	t.Helper()
	before := takenPages(t, s)
	got, f := s.Run(p, o)
	if !slices.Equal(takenPages(t, s), before) {
		t.Fatalf("P10, P12: %+v, by %+v: behind %+v the pages %v are in use, want %v", p, o, f, takenPages(t, s), before)
	}
	if f == fault && sameRows(got, want) {
		return fault.Code
	}
	if !slices.Contains(codes, f.Code) || f != inNode(f.Code, f.Node) || got != nil || !slices.Contains(sortNodes(p), f.Node) {
		t.Fatalf("P12: %+v, by %+v: %+v, %d rows, want %+v, or %v in a Sort", p, o, f, len(got), fault, codes)
	}
	if fault.Node != api.None && f.Node > fault.Node {
		t.Fatalf("P12: %+v, by %+v: %+v, but in an earlier node there is %+v", p, o, f, fault)
	}
	return f.Code
}

// TestRunOnAFullDisk: with few pages left or none, what the plan answers else, or ErrQuota; with many the same as else.
func TestRunOnAFullDisk(t *testing.T) {
	tables, plans := diskPlans(40)
	pages := loadedPlainly(t, roomy, tables...).Used()
	for _, p := range plans {
		want, fault := meant(p, tables)
		for _, budget := range []int{2, 7, 20, 39} {
			seen := map[api.Errno]int{}
			for left := 0; left < 3000; left += 1 + left/6 {
				s := loadedPlainly(t, api.Disk{Quota: pages + left}, tables...)
				o := api.Options{Batch: 5, Budget: budget}
				for range 2 {
					seen[meantOrDisk(t, s, p, o, want, fault, api.ErrQuota)]++
				}
				// The pages that were left can be taken still, and not one more.
				load(t, s, ofPages("more", min(left, 200)), hows(0), 1, placeless(api.OK))
				if left < 200 {
					load(t, s, ofPages("too many", 1), hows(0), 1, placeless(api.ErrQuota))
				}
			}
			if seen[fault.Code] == 0 || fault.Node != 1 && fault.Code != api.ErrMany && seen[api.ErrQuota] == 0 {
				t.Errorf("P12: %+v, a Budget of %d: %v", p, budget, seen)
			}
		}
	}
	// A disk that is over its quota from the beginning has no page for anyone.
	for _, quota := range []int{0, -1, -1 << 62} {
		s := colrun.New(api.Disk{Quota: quota})
		load(t, s, table("empty", types(1)), hows(0), 1, placeless(api.OK))
		runs(t, s, "no quota", plan(scan("empty"), sorted(0, key(0)), group(1, told(0, 1))), row(number(0)))
	}
}

// TestRunOnADiskThatFails: with each of the first hundred writes failing, and with some of the later ones, what the plan answers else, or ErrWrite; and behind that one it never fails again.
func TestRunOnADiskThatFails(t *testing.T) {
	tables, plans := diskPlans(14)
	pages := loadedPlainly(t, roomy, tables...).Used()
	for _, p := range plans {
		want, fault := meant(p, tables)
		for _, budget := range []int{2, 5, 13} {
			o := api.Options{Batch: 5, Budget: budget}
			failed := 0
			for write := 1; write < 100000; write += 1 + write/100 {
				s := loadedPlainly(t, api.Disk{Quota: 1 << 20, Fail: pages + write}, tables...)
				code := meantOrDisk(t, s, p, o, want, fault, api.ErrWrite)
				if code != api.ErrWrite {
					break
				}
				failed++
				if again := meantOrDisk(t, s, p, o, want, fault); again != fault.Code {
					t.Fatalf("P12: %+v: behind a write that failed: %d", p, again)
				}
			}
			if fault.Node != 1 && fault.Code != api.ErrMany && failed == 0 || failed > 10000 {
				t.Errorf("P12: %+v, a Budget of %d: %d writes failed", p, budget, failed)
			}
		}
	}
}

// TestOnlySortsAskForPages: all other nodes work on a full disk, and write nothing.
func TestOnlySortsAskForPages(t *testing.T) {
	d := &dice{state: 41}
	for round := range 60 {
		tables := d.thrownTables([]int{5, 60}[round%2])
		pages := loadedPlainly(t, roomy, tables...).Used()
		full := loadedPlainly(t, api.Disk{Quota: pages}, tables...)
		next := loadedPlainly(t, api.Disk{Quota: 1 << 20, Fail: pages + 1}, tables...)
		for range 10 {
			p := d.wholePlan()
			if len(sortNodes(p)) > 0 {
				continue
			}
			want, fault := meant(p, tables)
			answersBy(t, full, "on a full disk", p, d.thrownOptions(), want, fault)
			answersBy(t, next, "on a disk that fails next", p, d.thrownOptions(), want, fault)
		}
		drop(t, full, tables[0].Name)
		drop(t, next, tables[0].Name)
		load(t, next, ofPages("more", 1), hows(0), 1, placeless(api.ErrWrite))
	}
}

// TestRunLeavesTheDiskAsItWas: a store in which plans ran lays its next table on the same pages as one in which none did.
func TestRunLeavesTheDiskAsItWas(t *testing.T) {
	tables, plans := diskPlans(60)
	holed := func() *colrun.Store {
		s := colrun.New(roomy)
		loadPages(t, s, "a", 3)
		load(t, s, tables[0], hows(0, 0, 0, 0), 5, placeless(api.OK))
		loadPages(t, s, "b", 2)
		load(t, s, tables[1], hows(0, 0, 0, 0), 5, placeless(api.OK))
		drop(t, s, "a")
		drop(t, s, "b")
		return s
	}
	ran, other := holed(), holed()
	for _, p := range plans {
		for _, o := range someOptions {
			ran.Run(p, o)
		}
	}
	for _, s := range []*colrun.Store{ran, other} {
		loadPages(t, s, "c", 9)
	}
	pagesAre(t, ran, "c", pagesOf(t, other, "c")...)
	for _, x := range tables {
		reads(t, ran, x.Name, x.Rows)
		pagesAre(t, ran, x.Name, pagesOf(t, other, x.Name)...)
	}
}

// TestThrownPlansOnBadDisks: thrown plans on disks with few pages left, one write of which fails.
func TestThrownPlansOnBadDisks(t *testing.T) {
	d := &dice{state: 51}
	seen := map[api.Errno]int{}
	for range 200 {
		tables := d.thrownTables(40)
		pages := loadedPlainly(t, roomy, tables...).Used()
		s := loadedPlainly(t, api.Disk{Quota: pages + d.below(300), Fail: pages + 1 + d.below(400)}, tables...)
		for range 6 {
			p := d.wholePlan()
			want, fault := meant(p, tables)
			seen[meantOrDisk(t, s, p, d.thrownOptions(), want, fault, api.ErrQuota, api.ErrWrite)]++
		}
	}
	if seen[api.OK] < 100 || seen[api.ErrQuota] < 10 || seen[api.ErrWrite] < 5 {
		t.Errorf("too few of a kind: %v", seen)
	}
}
