// Package tables keeps tables on a disk: cut into groups of rows, each column of a group as a segment.
package tables

import (
	"slices"
	"strings"

	"colrun/api"
	"colrun/columns"
	"colrun/disk"
	"colrun/segments"
)

// Set is some tables on a disk.
type Set struct {
	disk *disk.Disk
	held []*table // in the order of loading
}

// table is what must be known of a table to read it from the disk.
type table struct {
	name     string
	types    []int
	rows     int
	group    int     // how many rows a group has; the last one may have less
	segments [][]int // the pages of each segment: for each group, for each column
}

// New is a set without tables.
func New(d *disk.Disk) *Set {
	return &Set{disk: d}
}

// Load lays a table on the disk: ErrArg, ErrTable, segments.ErrDict with the column, or the disk's error.
func (s *Set) Load(t api.Table, hows []int, group int) error {
	if !isTable(t) || !areWays(hows, t.Types) || group < 1 || group > api.MaxGroup {
		return ErrArg
	}
	if s.find(t.Name) >= 0 || len(s.held) >= api.MaxTables {
		return ErrTable
	}
	// All is packed ahead of the first write: a segment that cannot be written so goes before what the disk says.
	texts, err := pack(t, hows, group)
	if err != nil {
		return err
	}
	laid, err := s.lay(texts)
	if err != nil {
		return &Error{Table: t.Name, Column: api.None, Err: err}
	}
	s.held = append(s.held, &table{
		name:     strings.Clone(t.Name),
		types:    slices.Clone(t.Types),
		rows:     len(t.Rows),
		group:    group,
		segments: laid,
	})
	return nil
}

// Drop lets a table go: ErrTable.
func (s *Set) Drop(name string) error {
	i := s.find(name)
	if i < 0 {
		return ErrTable
	}
	s.release(s.held[i].segments)
	s.held = slices.Delete(s.held, i, i+1)
	return nil
}

// Names are the tables' names, in the order of loading.
func (s *Set) Names() []string {
	names := make([]string, len(s.held))
	for i, t := range s.held {
		names[i] = t.name
	}
	return names
}

// Types are the types of a table's columns; false, if there is no such table.
func (s *Set) Types(name string) ([]int, bool) {
	i := s.find(name)
	if i < 0 {
		return nil, false
	}
	return slices.Clone(s.held[i].types), true
}

// Rows are a table's rows: ErrTable, or the disk's error.
func (s *Set) Rows(name string) (columns.Rows, error) {
	i := s.find(name)
	if i < 0 {
		return nil, ErrTable
	}
	rows, err := s.read(s.held[i])
	if err != nil {
		return nil, &Error{Table: name, Column: api.None, Err: err}
	}
	return rows, nil
}

// find is where the table of this name stands; -1, if there is none.
func (s *Set) find(name string) int {
	return slices.IndexFunc(s.held, func(t *table) bool { return t.name == name })
}

// lay writes segments on pages; all of them, or none is left there.
func (s *Set) lay(texts []string) ([][]int, error) {
	var laid [][]int
	for _, text := range texts {
		pages, err := s.disk.Lay(text)
		if err != nil {
			s.release(laid)
			return nil, err
		}
		laid = append(laid, pages)
	}
	return laid, nil
}

func (s *Set) release(laid [][]int) {
	for _, pages := range laid {
		s.disk.Release(pages)
	}
}

// read reads the segments in the order in which they were written, so that the first spoilt page of that order is the one that is told.
func (s *Set) read(t *table) (columns.Rows, error) {
	rows := columns.New(len(t.types))
	left := t.segments
	for from := 0; from < t.rows; from += t.group {
		n := min(t.group, t.rows-from)
		for c, typ := range t.types {
			vs, err := s.values(left[0], typ, n)
			if err != nil {
				return nil, err
			}
			left = left[1:]
			rows[c] = append(rows[c], vs...)
		}
	}
	return rows, nil
}

// values reads a segment, of so many values of the type.
func (s *Set) values(pages []int, typ int, n int) ([]api.Value, error) {
	text, err := s.disk.Read(pages)
	if err != nil {
		return nil, err
	}
	vs, err := segments.Values(text, typ, n)
	// The disk may not notice several bytes of a page that are spoilt; what is no segment then, or another one's, is a spoilt page too.
	if err != nil {
		return nil, disk.Spoilt(pages[0])
	}
	return vs, nil
}

// pack is the segments of a table: for each group of rows, for each column.
func pack(t api.Table, hows []int, group int) ([]string, error) {
	var texts []string
	for rows := range slices.Chunk(t.Rows, group) {
		for c, typ := range t.Types {
			text, err := segments.Pack(typ, hows[c], column(rows, c))
			if err != nil {
				return nil, &Error{Table: t.Name, Column: c, Err: err}
			}
			texts = append(texts, text)
		}
	}
	return texts, nil
}

func column(rows []api.Row, c int) []api.Value {
	vs := make([]api.Value, len(rows))
	for i, row := range rows {
		vs[i] = row[c]
	}
	return vs
}
