package joins

import (
	"colrun/api"
	"colrun/columns"
)

// hashed is what a row's key is found by.
type hashed struct {
	hash uint64
	null bool // one of its values is NULL: it fits none
}

// hashes are those of a batch's rows, worked column by column: rows with the same values in these columns have the same.
func hashes(batch columns.Rows, numbers []int, seed uint64) []hashed {
	keys := make([]hashed, batch.Len())
	for i := range keys {
		keys[i].hash = seed
	}
	for _, c := range numbers {
		for i, v := range batch[c] {
			keys[i].add(v)
		}
	}
	return keys
}

func (h *hashed) add(v api.Value) {
	if v.Kind == api.Null {
		h.null = true
		return
	}
	h.mix(uint64(v.N))
	for _, b := range []byte(v.S) {
		h.mix(uint64(b) + 1) // a zero byte is not nothing
	}
}

// mix stirs a number in so that each of its bits turns about half of those of the hash (the factors are those of the finalizer of SplitMix64).
func (h *hashed) mix(n uint64) {
	x := h.hash*31 + n + 0x9e3779b97f4a7c15
	x = (x ^ x>>30) * 0xbf58476d1ce4e5b9
	x = (x ^ x>>27) * 0x94d049bb133111eb
	h.hash = x ^ x>>31
}
