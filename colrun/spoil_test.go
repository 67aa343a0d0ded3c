package colrun_test

import (
	"math"
	"testing"

	"colrun/api"
	"colrun/colrun"
)

// three is a store with three tables, on the pages 0 to 2, 3 to 12 (one long segment) and 13.
func three(t *testing.T) *colrun.Store {
	t.Helper()
	s := colrun.New(roomy)
	loadPages(t, s, "a", 3)
	load(t, s, longTable(), hows(api.Plain), 64, placeless(api.OK))
	loadPages(t, s, "c", 1)
	used(t, s, 14)
	return s
}

func longTable() api.Table { return inOneColumn("b", api.Int, counting(-30, 64)) }

// threeRead fails unless the tables that are in three, but for one, are read.
func threeRead(t *testing.T, s *colrun.Store, except string) {
	t.Helper()
	for name, rows := range map[string][]api.Row{"a": ofPages("a", 3).Rows, "b": longTable().Rows, "c": ofPages("c", 1).Rows} {
		if name != except {
			reads(t, s, name, rows)
		}
	}
}

// TestEachByteOfAPage turns each stored byte of a page by several numbers, and back.
func TestEachByteOfAPage(t *testing.T) {
	s := three(t)
	for page, owner := range map[int]string{0: "a", 1: "a", 2: "a", 3: "b", 7: "b", 12: "b", 13: "c"} {
		for at := range api.PageSize {
			for _, by := range []int{1, 2, 3, 16, 85, 127, 128, 170, 254, 255} {
				spoil(t, s, page, at, by)
				isNotRead(t, s, owner, atPage(page))
				threeRead(t, s, owner)
				spoil(t, s, page, at, by)
				threeRead(t, s, "")
			}
		}
	}
	used(t, s, 14)
}

// TestEachTurnOfAByte turns some bytes by all numbers there are.
func TestEachTurnOfAByte(t *testing.T) {
	s := three(t)
	for _, at := range []int{0, 3, 30, 55, 56, 57, 60, 63} {
		for by := 1; by <= 255; by++ {
			spoil(t, s, 13, at, by)
			isNotRead(t, s, "c", atPage(13))
			spoil(t, s, 13, at, by)
		}
	}
	threeRead(t, s, "")
}

// TestSpoilIsExclusiveOr: turns of one byte add up, those of two do not.
func TestSpoilIsExclusiveOr(t *testing.T) {
	s := three(t)
	for _, by := range []int{3, 5} {
		spoil(t, s, 1, 40, by)
		isNotRead(t, s, "a", atPage(1))
	}
	spoil(t, s, 1, 40, 6)
	reads(t, s, "a", ofPages("a", 3).Rows)
	spoil(t, s, 1, 40, 3)
	spoil(t, s, 1, 41, 3)
	isNotRead(t, s, "a", atPage(1))
	spoil(t, s, 1, 40, 3)
	isNotRead(t, s, "a", atPage(1))
	spoil(t, s, 2, 41, 3)
	spoil(t, s, 1, 41, 3)
	isNotRead(t, s, "a", atPage(2))
	spoil(t, s, 2, 41, 3)
	threeRead(t, s, "")
}

func TestFirstSpoiltPageIsTold(t *testing.T) {
	s := colrun.New(roomy)
	loadPages(t, s, "a", 2)
	loadPages(t, s, "b", 2)
	drop(t, s, "a")
	load(t, s, documentTable(), hows(0, 1), 2, placeless(api.OK))
	pagesAre(t, s, "t", 0, 1, 4, 5)
	for _, page := range []int{5, 4, 1, 0} {
		spoil(t, s, page, 63, 200)
		isNotRead(t, s, "t", atPage(page))
	}
	spoil(t, s, 2, 0, 1)
	isNotRead(t, s, "b", atPage(2))
	isNotRead(t, s, "t", atPage(0))
	isNotRead(t, s, "nothing", placeless(api.ErrTable))
	for _, c := range []struct{ back, next int }{{0, 1}, {4, 1}, {1, 5}} {
		spoil(t, s, c.back, 63, 200)
		isNotRead(t, s, "t", atPage(c.next))
	}
	spoil(t, s, 5, 63, 200)
	reads(t, s, "t", documentTable().Rows)
}

// TestSeveralSpoiltBytes: all pairs of bytes of a page, and whole pages.
func TestSeveralSpoiltBytes(t *testing.T) {
	s := three(t)
	for one := range api.PageSize {
		for other := range one {
			for _, by := range [][2]int{{1, 1}, {255, 255}, {128, 1}, {9, 200}} {
				spoil(t, s, 2, one, by[0])
				spoil(t, s, 2, other, by[1])
				isNotRead(t, s, "a", atPage(2))
				spoil(t, s, 2, one, by[0])
				spoil(t, s, 2, other, by[1])
			}
		}
	}
	threeRead(t, s, "")
	d := &dice{}
	for range 1000 {
		for at := range api.PageSize {
			spoil(t, s, 0, at, 1+d.below(255))
		}
		isNotRead(t, s, "a", atPage(0))
	}
}

func TestSpoilRefuses(t *testing.T) {
	s := three(t)
	drop(t, s, "a")
	strange := []int{math.MinInt, math.MinInt + 13, -1 << 32, -256, -64, -1, 14, 15, 64, 256, 1 << 32, 1<<32 + 13, math.MaxInt}
	for _, page := range append(strange, 0, 1, 2) {
		for at := range api.PageSize {
			if s.Spoil(page, at, 1) {
				t.Errorf("P8: Spoil(%d, %d, 1) = true: the page is not in use", page, at)
			}
		}
	}
	for _, at := range []int{math.MinInt, -64, -1, 64, 65, 128, 256, 1 << 32, math.MaxInt} {
		if s.Spoil(13, at, 1) || s.Spoil(3, at, 255) {
			t.Errorf("P8: Spoil(.., %d, ..) = true", at)
		}
	}
	for _, by := range []int{math.MinInt, -256, -255, -1, 0, 256, 257, 512, 1<<32 + 1, math.MaxInt} {
		if s.Spoil(13, 0, by) || s.Spoil(3, 63, by) {
			t.Errorf("P8: Spoil(.., .., %d) = true", by)
		}
	}
	threeRead(t, s, "a")
	used(t, s, 11)
	if empty := colrun.New(roomy); empty.Spoil(0, 0, 1) {
		t.Errorf("P8: Spoil of an empty disk = true")
	}
}

// TestSpoilOfPagesOfARefusedLoad: they are not in use.
func TestSpoilOfPagesOfARefusedLoad(t *testing.T) {
	for _, disk := range []api.Disk{{Quota: 2}, {Quota: 9, Fail: 3}} {
		s := colrun.New(disk)
		s.Load(ofPages("a", 3), hows(0), 1)
		for page := range 4 {
			if s.Spoil(page, 0, 1) {
				t.Errorf("P8: disk %+v: Spoil of page %d of a Load that went wrong = true", disk, page)
			}
		}
	}
}

// TestSpoiltPagesAreWrittenAnew: a spoilt table can be dropped, and its pages taken again.
func TestSpoiltPagesAreWrittenAnew(t *testing.T) {
	s := three(t)
	for page := range 3 {
		for at := range api.PageSize {
			spoil(t, s, page, at, 1+at)
		}
	}
	isNotRead(t, s, "a", atPage(0))
	load(t, s, ofPages("a", 1), hows(0), 1, placeless(api.ErrTable))
	drop(t, s, "a")
	used(t, s, 11)
	loadPages(t, s, "d", 4)
	pagesAre(t, s, "d", 0, 1, 2, 14)
	reads(t, s, "d", ofPages("d", 4).Rows)
	threeRead(t, s, "a")
}
