package sorts

// heap is runs, each ahead of the two with the numbers 2i+1 and 2i+2, so that the first one is ahead of all.
type heap struct {
	runs  []*run
	ahead func(a, b *run) bool
}

func (h *heap) push(r *run) {
	h.runs = append(h.runs, r)
	h.rise(len(h.runs) - 1)
}

// pop takes the first run out.
func (h *heap) pop() {
	last := len(h.runs) - 1
	h.runs[0] = h.runs[last]
	h.runs[last] = nil
	h.runs = h.runs[:last]
	h.sink()
}

// rise brings the run with this number up to its place.
func (h *heap) rise(i int) {
	for i > 0 {
		above := (i - 1) / 2
		if !h.ahead(h.runs[i], h.runs[above]) {
			return
		}
		h.swap(i, above)
		i = above
	}
}

// sink brings the first run, which has changed, down to its place.
func (h *heap) sink() {
	i := 0
	for {
		first := h.first(i, 2*i+1, 2*i+2)
		if first == i {
			return
		}
		h.swap(i, first)
		i = first
	}
}

// first is which of three runs is ahead of the others; the last two numbers may be those of none.
func (h *heap) first(i, left, right int) int {
	if left < len(h.runs) && h.ahead(h.runs[left], h.runs[i]) {
		i = left
	}
	if right < len(h.runs) && h.ahead(h.runs[right], h.runs[i]) {
		i = right
	}
	return i
}

func (h *heap) swap(i, k int) {
	h.runs[i], h.runs[k] = h.runs[k], h.runs[i]
}
