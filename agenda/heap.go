package agenda

// entryHeap is what container/heap works on; each entry knows its place, so that it can be taken out of the middle.
type entryHeap []*Entry

func (h entryHeap) Len() int { return len(h) }

// Less asks for the number too: a heap alone does not keep the order of entries of one tick.
func (h entryHeap) Less(i, j int) bool {
	if h[i].tick != h[j].tick {
		return h[i].tick < h[j].tick
	}
	return h[i].number < h[j].number
}

func (h entryHeap) Swap(i, j int) {
	h[i], h[j] = h[j], h[i]
	h[i].place = i
	h[j].place = j
}

func (h *entryHeap) Push(x any) {
	e := x.(*Entry)
	e.place = len(*h)
	*h = append(*h, e)
}

func (h *entryHeap) Pop() any {
	last := len(*h) - 1
	e := (*h)[last]
	(*h)[last] = nil // or the closure would be kept alive
	*h = (*h)[:last]
	return e
}
