// Package disk: pages of one size, of which only so many may be in use, some one of which may fail to be written, and whose bytes may be spoilt.
package disk

import (
	"strings"

	"colrun/api"
)

// Disk is pages, numbered from 0 on.
type Disk struct {
	quota, fail int
	writes      int       // so far, with those that failed
	used        int       // how many pages are in use
	lowest      int       // all pages below it are in use
	pages       []*stored // by number; nil: not in use
}

// New is an empty disk.
func New(d api.Disk) *Disk {
	return &Disk{quota: d.Quota, fail: d.Fail}
}

// Used is how many pages are in use.
func (d *Disk) Used() int {
	return d.used
}

// Lay writes a text on pages, as many as it needs, and tells which, in order: ErrQuota, ErrWrite, and then none of them is in use.
func (d *Disk) Lay(text string) ([]int, error) {
	var pages []int
	for len(text) > 0 {
		n := min(len(text), api.PageBytes)
		page, err := d.write(text[:n])
		if err != nil {
			d.Release(pages)
			return nil, err
		}
		pages = append(pages, page)
		text = text[n:]
	}
	return pages, nil
}

// Read is the text that lies on these pages: ErrPage.
func (d *Disk) Read(pages []int) (string, error) {
	var text strings.Builder
	for _, page := range pages {
		if !d.inUse(page) {
			return "", Spoilt(page)
		}
		piece, ok := d.pages[page].open()
		if !ok {
			return "", Spoilt(page)
		}
		text.WriteString(piece)
	}
	return text.String(), nil
}

// Release lets pages go: they are not in use any more.
func (d *Disk) Release(pages []int) {
	for _, page := range pages {
		if d.inUse(page) {
			d.pages[page] = nil
			d.used--
			d.lowest = min(d.lowest, page)
		}
	}
}

// Spoil turns a stored byte of a page; false, if there is none such, or if it would not be turned.
func (d *Disk) Spoil(page int, at int, by int) bool {
	if !d.inUse(page) || at < 0 || at >= api.PageSize || by < 1 || by > 255 {
		return false
	}
	d.pages[page][at] ^= byte(by)
	return true
}

func (d *Disk) inUse(page int) bool {
	return page >= 0 && page < len(d.pages) && d.pages[page] != nil
}

// write takes a page and writes one piece on it. A page is in use only once it is written, so that none must be given back if that fails.
func (d *Disk) write(piece string) (int, error) {
	if d.used >= d.quota {
		return 0, &Error{Why: ErrQuota, Page: api.None}
	}
	d.writes++
	if d.writes == d.fail {
		return 0, &Error{Why: ErrWrite, Page: api.None}
	}
	page := d.free()
	d.pages[page] = seal(piece)
	d.used++
	return page, nil
}

// free is the lowest page that is not in use.
func (d *Disk) free() int {
	for d.inUse(d.lowest) {
		d.lowest++
	}
	if d.lowest == len(d.pages) {
		d.pages = append(d.pages, nil)
	}
	return d.lowest
}
