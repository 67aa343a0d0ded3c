package sorts

import (
	"colrun/api"
	"colrun/columns"
	"colrun/disk"
	"colrun/segments"
)

// run is rows in order that lie on the disk, in blocks; each block is in use until it is read.
type run struct {
	place  int          // among the runs: rows that are the same come from the earlier run first
	blocks []block      // that are not read yet
	held   columns.Rows // what is left of the block that was read last
}

// block is some rows on the disk: a text of all their columns' segments, one behind the other.
type block struct {
	rows    int
	lengths []int // of the segments
	pages   []int
}

// write lays rows behind those of the run.
func (s *sorting) write(r *run, rows columns.Rows) error {
	for _, batch := range rows.Batches(s.block) {
		b, err := s.lay(batch)
		if err != nil {
			return err
		}
		r.blocks = append(r.blocks, b)
	}
	return nil
}

// lay writes rows as a block. Plainly, as that can be done with values of all types, however many different ones.
func (s *sorting) lay(rows columns.Rows) (block, error) {
	b := block{rows: rows.Len()}
	text := ""
	for c, typ := range s.types {
		segment, err := segments.Pack(typ, api.Plain, rows[c])
		if err != nil {
			return block{}, err
		}
		text += segment
		b.lengths = append(b.lengths, len(segment))
	}
	pages, err := s.disk.Lay(text)
	if err != nil {
		return block{}, err
	}
	b.pages = pages
	return b, nil
}

// next goes on to the run's next row; false, if there is none.
func (s *sorting) next(r *run) (bool, error) {
	if n := r.held.Len(); n > 1 {
		r.held = r.held.Cut(1, n)
		return true, nil
	}
	r.held = nil
	if len(r.blocks) == 0 {
		return false, nil
	}
	rows, err := s.read(r.blocks[0])
	if err != nil {
		return false, err
	}
	s.disk.Release(r.blocks[0].pages)
	r.blocks = r.blocks[1:]
	r.held = rows
	return true, nil
}

// read is the rows of a block.
func (s *sorting) read(b block) (columns.Rows, error) {
	text, err := s.disk.Read(b.pages)
	if err != nil {
		return nil, err
	}
	rows := columns.New(len(s.types))
	for c, n := range b.lengths {
		if n > len(text) {
			return nil, disk.Spoilt(b.pages[0])
		}
		vs, err := segments.Values(text[:n], s.types[c], b.rows)
		if err != nil {
			return nil, disk.Spoilt(b.pages[0])
		}
		rows[c] = vs
		text = text[n:]
	}
	return rows, nil
}

// release lets go what is left of all runs.
func (s *sorting) release() {
	for _, r := range s.made {
		for _, b := range r.blocks {
			s.disk.Release(b.pages)
		}
	}
}
