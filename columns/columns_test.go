package columns_test

import (
	"slices"
	"testing"

	"colrun/api"
	"colrun/columns"
)

func number(n int) api.Value { return api.Value{Kind: api.Int, N: int64(n)} }

// sample is rows of two columns: the row's number, and ten times it.
func sample(n int) columns.Rows {
	rows := columns.New(2)
	for i := range n {
		rows.Add(columns.Rows{{number(i)}, {number(10 * i)}})
	}
	return rows
}

// first is the first column's numbers; it fails unless the second one goes with it.
func first(t *testing.T, rows columns.Rows) []int {
	t.Helper()
	var l []int
	for i, v := range rows[0] {
		if rows[1][i].N != 10*v.N {
			t.Fatalf("row %d: %+v", i, rows)
		}
		l = append(l, int(v.N))
	}
	return l
}

func TestLen(t *testing.T) {
	for n := range 4 {
		if got := sample(n).Len(); got != n {
			t.Errorf("Len = %d, want %d", got, n)
		}
	}
	if columns.New(0).Len() != 0 {
		t.Error("rows without columns are none")
	}
}

// TestBatches: all rows, each batch with the number of its first row; what is put behind a batch changes nothing.
func TestBatches(t *testing.T) {
	for n := range 8 {
		for size := 1; size <= 9; size++ {
			rows := sample(n)
			var all []int
			for from, batch := range rows.Batches(size) {
				if from != len(all) || batch.Len() > size || batch.Len() == 0 || batch.Len() < size && from+batch.Len() != n {
					t.Errorf("%d rows, %d at once: %d rows from %d on", n, size, batch.Len(), from)
				}
				all = append(all, first(t, batch)...)
				batch.Add(sample(1))
			}
			if !slices.Equal(all, first(t, rows)) || len(all) != n {
				t.Errorf("%d rows, %d at once: %v", n, size, all)
			}
		}
	}
	for from := range sample(9).Batches(2) {
		if from == 4 {
			break
		}
	}
}

func TestPick(t *testing.T) {
	rows := sample(5)
	got := rows.Pick([]int{3, 3, 0, 4})
	if !slices.Equal(first(t, got), []int{3, 3, 0, 4}) {
		t.Errorf("Pick = %+v", got)
	}
	got[0][0] = number(9)
	if rows[0][3] != number(3) {
		t.Error("Pick is no copy")
	}
	got = columns.New(3).Pick([]int{api.None, api.None})
	for c := range 3 {
		if !slices.Equal(got[c], []api.Value{{}, {}}) {
			t.Errorf("Pick of None = %+v", got)
		}
	}
}

func TestBeside(t *testing.T) {
	got := sample(2).Beside(sample(2).Pick([]int{1, 0}))
	if len(got) != 4 || !slices.Equal(first(t, got), []int{0, 1}) || !slices.Equal(first(t, got[2:]), []int{1, 0}) {
		t.Errorf("Beside = %+v", got)
	}
}

// TestList: rows in memory of their own.
func TestList(t *testing.T) {
	rows := sample(3)
	list := rows.List()
	for i, row := range list {
		if !slices.Equal(row, api.Row{number(i), number(10 * i)}) {
			t.Errorf("row %d: %+v", i, row)
		}
		row[0], row[1] = number(7), number(7)
		list[i] = append(row, number(7))
	}
	if !slices.Equal(first(t, rows), []int{0, 1, 2}) {
		t.Errorf("the list is no copy: %+v", rows)
	}
}
