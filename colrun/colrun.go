// Package colrun: tables in columns, and plans that are run over them: see DOC.md.
package colrun

import (
	"colrun/api"
	"colrun/columns"
	"colrun/disk"
	"colrun/plans"
	"colrun/segments"
	"colrun/tables"
	"colrun/work"
)

// Store is some tables on a disk.
type Store struct {
	disk   *disk.Disk
	tables *tables.Set
}

// Pack writes values as a segment (P3).
func Pack(typ int, how int, vs []api.Value) (string, api.Fault) {
	text, err := segments.Pack(typ, how, vs)
	return text, faultOf(err)
}

// Unpack reads a segment (P4).
func Unpack(segment string) (int, []api.Value, api.Fault) {
	typ, vs, err := segments.Unpack(segment)
	return typ, vs, faultOf(err)
}

// New is a store without tables (P5).
func New(d api.Disk) *Store {
	pages := disk.New(d)
	return &Store{disk: pages, tables: tables.New(pages)}
}

// Load lays a table on the disk (P5).
func (s *Store) Load(t api.Table, hows []int, group int) api.Fault {
	return faultOf(s.tables.Load(t, hows, group))
}

// Drop lets a table go (P6).
func (s *Store) Drop(name string) api.Fault {
	return faultOf(s.tables.Drop(name))
}

// Tables tells the tables' names (P6).
func (s *Store) Tables() []string {
	return s.tables.Names()
}

// Used tells how many pages are in use (P6).
func (s *Store) Used() int {
	return s.disk.Used()
}

// Scan tells a table's rows (P7).
func (s *Store) Scan(name string) ([]api.Row, api.Fault) {
	rows, err := s.tables.Rows(name)
	return listOf(rows, err)
}

// Spoil turns a stored byte of a page (P8).
func (s *Store) Spoil(page int, at int, by int) bool {
	return s.disk.Spoil(page, at, by)
}

// Check tells a plan's schema (P9).
func (s *Store) Check(p api.Plan) ([]int, api.Fault) {
	schema, err := plans.Check(p, s.tables.Types)
	return schema, faultOf(err)
}

// Run works a plan (P10).
func (s *Store) Run(p api.Plan, o api.Options) ([]api.Row, api.Fault) {
	rows, err := work.Run(p, o, s.tables, s.disk)
	return listOf(rows, err)
}

// listOf is what a call answers that tells rows: with an error no list.
func listOf(rows columns.Rows, err error) ([]api.Row, api.Fault) {
	if err != nil {
		return nil, faultOf(err)
	}
	return rows.List(), faultOf(nil)
}
