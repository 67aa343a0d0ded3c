package sorts

import (
	"errors"
	"slices"
	"testing"

	"colrun/api"
	"colrun/columns"
	"colrun/disk"
)

func number(n int) api.Value { return api.Value{Kind: api.Int, N: int64(n)} }

// TestHeap: runs come out in order, whatever the order in which they are pushed, and while the first one changes.
func TestHeap(t *testing.T) {
	for n := range 40 {
		h := &heap{ahead: func(a, b *run) bool { return a.place < b.place }}
		for i := range n {
			h.push(&run{place: i * 17 % (n + 1)})
		}
		var got []int
		for len(h.runs) > 0 {
			got = append(got, h.runs[0].place)
			if len(got) < 2*n && h.runs[0].place < 1000 {
				h.runs[0].place += 1000 + 13*h.runs[0].place%7
				h.sink()
			} else {
				h.pop()
			}
		}
		if len(got) != 2*n || !slices.IsSorted(got) {
			t.Errorf("%d runs: %v", n, got)
		}
	}
}

// sample is n rows of few different numbers, and each row's own behind them.
func sample(n int) columns.Rows {
	rows := columns.New(2)
	for i := range n {
		rows.Add(columns.Rows{{number(i * 7 % 5)}, {number(i)}})
	}
	return rows
}

func isInOrder(rows columns.Rows) bool {
	for i := 1; i < rows.Len(); i++ {
		a, b := rows[0][i-1].N, rows[0][i].N
		if a > b || a == b && rows[1][i-1].N > rows[1][i].N {
			return false
		}
	}
	return true
}

// TestSort: whatever is held, in order, and no page is left; of what can be held none is taken.
func TestSort(t *testing.T) {
	for _, n := range []int{0, 1, 2, 3, 10, 65, 300} {
		for _, budget := range []int{2, 3, 5, 17, 18, 100, 299, 300} {
			d := disk.New(api.Disk{Quota: 1000})
			if n <= budget {
				d = disk.New(api.Disk{})
			}
			rows := sample(n)
			got, err := Sort(rows, []int{api.Int, api.Int}, []api.Key{{}}, budget, d)
			if err != nil || got.Len() != n || !isInOrder(got) || d.Used() != 0 {
				t.Errorf("%d rows, %d held: %d, %v, %d pages left", n, budget, got.Len(), err, d.Used())
			}
			if rows.Len() != n || n > 1 && rows[0][1] != number(2) {
				t.Errorf("%d rows, %d held: what was handed in is changed", n, budget)
			}
		}
	}
}

// TestSortHoldsNoMoreThanItMay: a block of each run that is merged; a row of each, if runs were merged to fewer ahead of that.
func TestSortHoldsNoMoreThanItMay(t *testing.T) {
	for n := 3; n <= 400; n += 7 {
		for budget := 2; budget < n; budget += 1 + budget/4 {
			s := &sorting{types: []int{api.Int, api.Int}, keys: []api.Key{{}}, budget: budget, disk: disk.New(api.Disk{Quota: 10000})}
			runs, err := s.fewRuns(sample(n))
			if err != nil {
				t.Fatal(err)
			}
			if s.block < 1 || s.block > api.MaxGroup || len(runs)*s.block > budget || n > budget*budget && s.block != 1 {
				t.Errorf("%d rows, %d held: %d runs, blocks of %d", n, budget, len(runs), s.block)
			}
			s.release()
			if s.disk.Used() != 0 {
				t.Errorf("%d rows, %d held: %d pages left", n, budget, s.disk.Used())
			}
		}
	}
}

// TestSortOnABadDisk: the disk's error, and nothing is left.
func TestSortOnABadDisk(t *testing.T) {
	for i := range 60 {
		for why, bounds := range map[error]api.Disk{disk.ErrQuota: {Quota: i}, disk.ErrWrite: {Quota: 1000, Fail: i + 1}} {
			d := disk.New(bounds)
			got, err := Sort(sample(60), []int{api.Int, api.Int}, []api.Key{{}}, 4, d)
			if got != nil || !errors.Is(err, why) || d.Used() != 0 {
				t.Errorf("%+v: %d rows, %v, %d pages left", bounds, got.Len(), err, d.Used())
			}
		}
	}
}

// TestBlocksThatAreNone: a block whose bytes are not what was written is a spoilt page.
func TestBlocksThatAreNone(t *testing.T) {
	d := disk.New(api.Disk{Quota: 10})
	for name, change := range map[string]func(s *sorting, b *block){
		"one segment is too long": func(s *sorting, b *block) { b.lengths[1] = 1000 },
		"one is too short":        func(s *sorting, b *block) { b.lengths[0]-- },
		"one value less":          func(s *sorting, b *block) { b.rows++ },
		"another type":            func(s *sorting, b *block) { s.types[1] = api.Text },
	} {
		s := &sorting{types: []int{api.Int, api.Int}, disk: d, block: 2}
		r := s.add(0)
		if err := s.write(r, sample(2)); err != nil {
			t.Fatal(err)
		}
		change(s, &r.blocks[0])
		rows, err := s.read(r.blocks[0])
		var e *disk.Error
		if rows != nil || !errors.As(err, &e) || e.Page != r.blocks[0].pages[0] {
			t.Errorf("%s: %v, %v", name, rows, err)
		}
		s.release()
		if d.Used() != 0 {
			t.Errorf("%s: %d pages left", name, d.Used())
		}
	}
}
