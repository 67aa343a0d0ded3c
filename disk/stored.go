package disk

import "colrun/api"

// stored is a page as it is stored: the bytes that it holds, zeros up to PageBytes, how many it holds, and the sum over all these.
type stored [api.PageSize]byte

const (
	lengthAt = api.PageBytes
	sumAt    = lengthAt + 1
)

// seal is the page that holds this piece, of at most PageBytes.
func seal(piece string) *stored {
	p := new(stored)
	copy(p[:], piece)
	p[lengthAt] = byte(len(piece))
	copy(p[sumAt:], p.sum())
	return p
}

// open is what the page holds; false, if its bytes are noticed to be others than were written.
func (p *stored) open() (string, bool) {
	n := int(p[lengthAt])
	if n > api.PageBytes || string(p[sumAt:]) != p.sum() {
		return "", false
	}
	return string(p[:n]), true
}

// sum is a sum over what lies ahead of it. Each step is one-to-one both in the byte and in the sum so far (the factor is odd), and that in its lowest 56 bits too, which are kept: bytes that differ in one place always have another sum.
func (p *stored) sum() string {
	const start, factor = 0xcbf29ce484222325, 0x100000001b3
	sum := uint64(start)
	for _, b := range p[:sumAt] {
		sum = (sum ^ uint64(b)) * factor
	}
	var low [api.PageSize - sumAt]byte
	for i := range low {
		low[i] = byte(sum >> (8 * i))
	}
	return string(low[:])
}
