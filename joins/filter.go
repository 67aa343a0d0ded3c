package joins

// filter is bits by which most of the keys that are not there are told without a look at the rows. It may take one for there that is not, but never the other way round.
type filter struct {
	size uint64 // how many bits; 0: all keys may be there
	bits []uint64
}

func newFilter(size int) *filter {
	return &filter{size: uint64(size), bits: make([]uint64, (size+63)/64)}
}

// places are the two bits of a key with this hash, told of its two halves.
func (f *filter) places(hash uint64) [2]uint64 {
	return [2]uint64{(hash >> 32) % f.size, uint64(uint32(hash)) % f.size}
}

func (f *filter) add(hash uint64) {
	if f.size == 0 {
		return
	}
	for _, at := range f.places(hash) {
		f.bits[at/64] |= 1 << (at % 64)
	}
}

func (f *filter) mayHave(hash uint64) bool {
	if f.size == 0 {
		return true
	}
	for _, at := range f.places(hash) {
		if f.bits[at/64]>>(at%64)&1 == 0 {
			return false
		}
	}
	return true
}
