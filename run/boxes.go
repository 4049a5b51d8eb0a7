package run

import (
	"steward/api"
	"steward/heap"
	"steward/program"
)

// boxes is what the boxes have: blocks of a heap.
type boxes struct {
	heap   heap.Heap
	blocks [program.Boxes]api.Span // a block's words; Len is 0 if the box is empty
	peak   int                     // 1 + the greatest number of a word that ever was in a block
}

func (b *boxes) full(box int) bool { return b.blocks[box].Len > 0 }

// get gives an empty box a new block of n words; false if the heap has no room.
func (b *boxes) get(box int, n int) bool {
	at, e := b.heap.Alloc(n)
	if e != api.OK {
		return false
	}
	b.blocks[box] = api.Span{At: at, Len: n}
	if at+n > b.peak {
		b.peak = at + n
	}
	return true
}

// lose ends a box's block, if it has one.
func (b *boxes) lose(box int) {
	if b.full(box) {
		b.heap.Free(b.blocks[box].At)
		b.blocks[box] = api.Span{}
	}
}

// move gives the block of another box to an empty one.
func (b *boxes) move(box int, source int) {
	b.blocks[box] = b.blocks[source]
	b.blocks[source] = api.Span{}
}

// word tells where in the heap a word of a box's block is; false if there is no such word.
func (b *boxes) word(box int, number int) (int, bool) {
	block := b.blocks[box]
	return block.At + number, number < block.Len
}

// used tells how many words all blocks have together.
func (b *boxes) used() int {
	sum := 0
	for box := 0; box < program.Boxes; box++ {
		sum += b.blocks[box].Len
	}
	return sum
}
