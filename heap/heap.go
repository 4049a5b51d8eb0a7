// Package heap: words of a fixed number, and the blocks that are made of them.
package heap

import "steward/api"

// word holds 0 as long as it is free, so that a new block needs no clearing and nothing of an ended block is kept.
type word struct {
	block int // 1 + the number of its block's first word; 0: it is free
	value int
}

// Heap is words, some of which are in blocks.
type Heap struct {
	words []word
}

// New makes a heap with all its words free.
func New(words int) (Heap, api.Errno) {
	if words < 1 || words > api.MaxWords {
		return Heap{}, api.ErrArg
	}
	return Heap{words: make([]word, words)}, api.OK
}

// Alloc makes a block at the beginning of the first free run that has room for it.
func (h *Heap) Alloc(n int) (int, api.Errno) {
	if n < 1 || n > api.MaxBlock {
		return 0, api.ErrArg
	}
	run := h.nextRun(0)
	for run.Len > 0 && run.Len < n {
		run = h.nextRun(run.At + run.Len)
	}
	if run.Len == 0 {
		return 0, api.ErrFull
	}
	for i := run.At; i < run.At+n; i++ {
		h.words[i].block = run.At + 1
	}
	return run.At, api.OK
}

// Free ends the block that begins at a place.
func (h *Heap) Free(at int) api.Errno {
	if !h.taken(at) || h.words[at].block != at+1 {
		return api.ErrPlace
	}
	for i := at; i < len(h.words) && h.words[i].block == at+1; i++ {
		h.words[i] = word{}
	}
	return api.OK
}

// Load reads a word of a block.
func (h *Heap) Load(at int) (int, api.Errno) {
	if !h.taken(at) {
		return 0, api.ErrPlace
	}
	return h.words[at].value, api.OK
}

// Store writes a word of a block.
func (h *Heap) Store(at int, value int) api.Errno {
	if !h.taken(at) {
		return api.ErrPlace
	}
	if value < 0 || value >= api.Mod {
		return api.ErrArg
	}
	h.words[at].value = value
	return api.OK
}

// Runs tells the free runs, in rising order. The list is made anew each time, because it becomes the caller's.
func (h *Heap) Runs() []api.Span {
	var list []api.Span
	run := h.nextRun(0)
	for run.Len > 0 {
		list = append(list, run)
		run = h.nextRun(run.At + run.Len)
	}
	return list
}

// taken tells whether there is such a word and it is in a block.
func (h *Heap) taken(at int) bool {
	return at >= 0 && at < len(h.words) && h.words[at].block != 0
}

// nextRun tells the first free run from a place on; its Len is 0 if there is none. A whole run comes out only because no caller begins inside of one.
func (h *Heap) nextRun(from int) api.Span {
	at := from
	for at < len(h.words) && h.taken(at) {
		at++
	}
	end := at
	for end < len(h.words) && !h.taken(end) {
		end++
	}
	return api.Span{At: at, Len: end - at}
}
