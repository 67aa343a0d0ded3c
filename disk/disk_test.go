package disk

import (
	"errors"
	"slices"
	"strings"
	"testing"

	"colrun/api"
)

// letters is a text of so many bytes, in which no two pages are the same.
func letters(n int) string {
	var b strings.Builder
	for i := range n {
		b.WriteByte(byte(i*7 + i/56))
	}
	return b.String()
}

func TestLayAndRead(t *testing.T) {
	for _, c := range []struct{ bytes, pages int }{{0, 0}, {1, 1}, {55, 1}, {56, 1}, {57, 2}, {112, 2}, {113, 3}, {1000, 18}} {
		d := New(api.Disk{Quota: 100})
		pages, err := d.Lay(letters(c.bytes))
		if err != nil || len(pages) != c.pages || d.Used() != c.pages {
			t.Fatalf("Lay of %d bytes: %v, %v, %d in use", c.bytes, pages, err, d.Used())
		}
		if text, err := d.Read(pages); err != nil || text != letters(c.bytes) {
			t.Errorf("Read of %d bytes: %q, %v", c.bytes, text, err)
		}
		for i, page := range pages {
			want := letters(c.bytes)[i*api.PageBytes : min((i+1)*api.PageBytes, c.bytes)]
			if text, err := d.Read([]int{page}); err != nil || text != want {
				t.Errorf("page %d of %d bytes holds %q, want %q (%v)", i, c.bytes, text, want, err)
			}
		}
	}
}

func TestReleaseOfPagesThatAreNotInUse(t *testing.T) {
	d := New(api.Disk{Quota: 9})
	pages, _ := d.Lay(letters(200))
	d.Release([]int{1, 1, -1, 4, 99})
	if d.Used() != 3 {
		t.Errorf("%d pages in use, want 3", d.Used())
	}
	d.Release(pages)
	if d.Used() != 0 {
		t.Errorf("%d pages in use, want none", d.Used())
	}
	if again, err := d.Lay(letters(200)); err != nil || !slices.Equal(again, pages) {
		t.Errorf("the pages that are taken again: %v, %v", again, err)
	}
}

// TestErrors: each can be asked by errors.Is for why and by errors.As for the page, through whatever wraps it.
func TestErrors(t *testing.T) {
	full := New(api.Disk{Quota: 1})
	_, quota := full.Lay(letters(57))
	failing := New(api.Disk{Quota: 9, Fail: 2})
	_, write := failing.Lay(letters(57))
	good := New(api.Disk{Quota: 9})
	pages, _ := good.Lay(letters(300))
	good.Spoil(3, 7, 7)
	_, spoilt := good.Read(pages)
	good.Release([]int{3})
	_, gone := good.Read(pages)
	for _, c := range []struct {
		err, why error
		page     int
	}{{quota, ErrQuota, api.None}, {write, ErrWrite, api.None}, {spoilt, ErrPage, 3}, {gone, ErrPage, 3}} {
		wrapped := errors.Join(errors.New("something else"), c.err)
		var e *Error
		if !errors.Is(wrapped, c.why) || !errors.As(wrapped, &e) || e.Page != c.page || e.Error() == "" {
			t.Errorf("%v: want %v, page %d", c.err, c.why, c.page)
		}
	}
	if full.Used() != 0 || failing.Used() != 0 {
		t.Errorf("pages are left of a text that could not be laid: %d, %d", full.Used(), failing.Used())
	}
}

// TestEachChangeOfOneByteIsNoticed: of full, short and empty pages, each byte, each other value.
func TestEachChangeOfOneByteIsNoticed(t *testing.T) {
	for _, n := range []int{0, 1, 3, 55, 56} {
		for _, piece := range []string{letters(n), strings.Repeat("\x00", n), strings.Repeat("\xff", n)} {
			p := seal(piece)
			for at := range p {
				for by := 1; by < 256; by++ {
					p[at] ^= byte(by)
					if text, ok := p.open(); ok || text != "" {
						t.Fatalf("%d bytes, byte %d turned by %d: %q, %v", n, at, by, text, ok)
					}
					p[at] ^= byte(by)
				}
			}
			if text, ok := p.open(); !ok || text != piece {
				t.Errorf("%q is read as %q, %v", piece, text, ok)
			}
		}
	}
}

// TestLengthOutOfAPage: several bytes may be turned so that the sum fits; a length that cannot be must not be gone by.
func TestLengthOutOfAPage(t *testing.T) {
	p := seal(letters(56))
	for _, n := range []byte{57, 64, 65, 255} {
		p[lengthAt] = n
		copy(p[sumAt:], p.sum())
		if text, ok := p.open(); ok || text != "" {
			t.Errorf("a page that says that it holds %d bytes: %q", n, text)
		}
	}
}
