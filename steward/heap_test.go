package steward_test

import (
	"math"
	"slices"
	"testing"

	"steward/api"
	"steward/steward"
)

// far: numbers that are no word of any heap, no size and no value.
var far = []int{math.MinInt, math.MinInt + 1, -4096, -1, 4096, 4097, math.MaxInt - 1, math.MaxInt}

func newHeap(t *testing.T, words int) *steward.Heap {
	t.Helper()
	h, e := steward.New(words)
	if e != api.OK || h == nil {
		t.Fatalf("New(%d): %v, %d", words, h, e)
	}
	return h
}

func wantAlloc(t *testing.T, h *steward.Heap, n int, at int, e api.Errno) {
	t.Helper()
	gotAt, gotE := h.Alloc(n)
	if gotAt != at || gotE != e {
		t.Fatalf("Alloc(%d): %d, %d; want %d, %d", n, gotAt, gotE, at, e)
	}
}

func wantFree(t *testing.T, h *steward.Heap, at int, e api.Errno) {
	t.Helper()
	got := h.Free(at)
	if got != e {
		t.Fatalf("Free(%d): %d; want %d", at, got, e)
	}
}

func wantLoad(t *testing.T, h *steward.Heap, at int, value int, e api.Errno) {
	t.Helper()
	gotValue, gotE := h.Load(at)
	if gotValue != value || gotE != e {
		t.Fatalf("Load(%d): %d, %d; want %d, %d", at, gotValue, gotE, value, e)
	}
}

func wantStore(t *testing.T, h *steward.Heap, at int, value int, e api.Errno) {
	t.Helper()
	got := h.Store(at, value)
	if got != e {
		t.Fatalf("Store(%d, %d): %d; want %d", at, value, got, e)
	}
}

func wantRuns(t *testing.T, h *steward.Heap, want ...api.Span) {
	t.Helper()
	got := h.Runs()
	if !slices.Equal(got, want) {
		t.Fatalf("Runs: %v; want %v", got, want)
	}
}

func span(at int, n int) api.Span { return api.Span{At: at, Len: n} }

// The document's own example, call by call.
func TestDocumentExample(t *testing.T) {
	h, e := steward.New(0)
	if h != nil || e != api.ErrArg {
		t.Fatalf("New(0): %v, %d", h, e)
	}
	h = newHeap(t, 10)
	wantAlloc(t, h, 4, 0, api.OK)
	wantAlloc(t, h, 3, 4, api.OK)
	wantAlloc(t, h, 4, 0, api.ErrFull)
	wantFree(t, h, 0, api.OK)
	wantAlloc(t, h, 2, 0, api.OK)
	wantRuns(t, h, span(2, 2), span(7, 3))
	wantAlloc(t, h, 3, 7, api.OK)
	wantFree(t, h, 1, api.ErrPlace)
	wantLoad(t, h, 3, 0, api.ErrPlace)
	wantStore(t, h, 5, 9, api.OK)
	wantLoad(t, h, 5, 9, api.OK)
	wantStore(t, h, 5, 1000, api.ErrArg)
	wantFree(t, h, 4, api.OK)
	wantFree(t, h, 0, api.OK)
	wantFree(t, h, 7, api.OK)
	wantRuns(t, h, span(0, 10))
}

// P1: no number makes a method panic, each error comes with zeros, and a refused call changes nothing.
func TestP1AllNumbers(t *testing.T) {
	for _, words := range []int{1, 2, 64, 65, 4095, 4096} {
		h := newHeap(t, words)
		wantAlloc(t, h, 1, 0, api.OK)
		wantStore(t, h, 0, 8, api.OK)
		before := h.Runs()
		for _, n := range far {
			wantAlloc(t, h, n, 0, api.ErrArg)
			wantFree(t, h, n, api.ErrPlace)
			wantLoad(t, h, n, 0, api.ErrPlace)
			wantStore(t, h, n, 1, api.ErrPlace)
			wantStore(t, h, 0, n, api.ErrArg)
		}
		wantFree(t, h, words, api.ErrPlace)
		wantLoad(t, h, words, 0, api.ErrPlace)
		wantStore(t, h, words, 1, api.ErrPlace)
		wantLoad(t, h, 0, 8, api.OK)
		wantRuns(t, h, before...)
	}
}

// P1: where several errors apply, the first named is answered.
func TestP1FirstNamedError(t *testing.T) {
	h := newHeap(t, 1)
	wantAlloc(t, h, 65, 0, api.ErrArg)
	wantAlloc(t, h, 64, 0, api.ErrFull)
	wantStore(t, h, 0, 1000, api.ErrPlace)
	wantStore(t, h, 0, -1, api.ErrPlace)
	wantAlloc(t, h, 1, 0, api.OK)
	wantAlloc(t, h, 0, 0, api.ErrArg)
	wantStore(t, h, 1, 1000, api.ErrPlace)
	wantStore(t, h, 0, 1000, api.ErrArg)
}

// P2: a heap answers by its own calls alone, whatever other heaps are asked between them.
func TestP2HeapsApart(t *testing.T) {
	alone := newHeap(t, 20)
	beside := newHeap(t, 20)
	other := newHeap(t, 20)
	for i := range 6 {
		wantAlloc(t, alone, 3, 3*i, api.OK)
		wantStore(t, alone, 3*i, i, api.OK)
	}
	for i := range 6 {
		wantAlloc(t, other, 2, 2*i, api.OK)
		wantAlloc(t, beside, 3, 3*i, api.OK)
		wantStore(t, other, 2*i, 900, api.OK)
		wantStore(t, beside, 3*i, i, api.OK)
	}
	for i := range 6 {
		wantFree(t, other, 2*i, api.OK)
		wantLoad(t, alone, 3*i, i, api.OK)
		wantLoad(t, beside, 3*i, i, api.OK)
	}
	wantRuns(t, alone, span(18, 2))
	wantRuns(t, beside, span(18, 2))
	wantRuns(t, other, span(0, 20))
}

// P2: what the caller writes into a list, its spare room too, shows nowhere later.
func TestP2ListIsTheCallers(t *testing.T) {
	h := newHeap(t, 9)
	for i := range 9 {
		wantAlloc(t, h, 1, i, api.OK)
	}
	for i := 0; i < 9; i += 2 {
		wantFree(t, h, i, api.OK)
	}
	want := []api.Span{span(0, 1), span(2, 1), span(4, 1), span(6, 1), span(8, 1)}
	kept := h.Runs()
	spoiled := h.Runs()
	room := spoiled[:cap(spoiled)]
	for i := range room {
		room[i] = span(77, 77)
	}
	wantRuns(t, h, want...)
	if !slices.Equal(kept, want) {
		t.Fatalf("a list was changed through another: %v", kept)
	}
	wantAlloc(t, h, 1, 0, api.OK)
	wantAlloc(t, h, 1, 2, api.OK)
}

// P2: a list that came out is changed by nothing later.
func TestP2ListStays(t *testing.T) {
	h := newHeap(t, 8)
	first := h.Runs()
	wantAlloc(t, h, 2, 0, api.OK)
	second := h.Runs()
	wantAlloc(t, h, 3, 2, api.OK)
	wantFree(t, h, 0, api.OK)
	third := h.Runs()
	wantFree(t, h, 2, api.OK)
	wantRuns(t, h, span(0, 8))
	if !slices.Equal(first, []api.Span{span(0, 8)}) {
		t.Errorf("the first list became %v", first)
	}
	if !slices.Equal(second, []api.Span{span(2, 6)}) {
		t.Errorf("the second list became %v", second)
	}
	if !slices.Equal(third, []api.Span{span(0, 2), span(5, 3)}) {
		t.Errorf("the third list became %v", third)
	}
}

// P3: the bounds of words on both sides, and all words free at first.
func TestP3New(t *testing.T) {
	for _, words := range []int{math.MinInt, -4096, -1, 0, 4097, 8192, 1 << 32, math.MaxInt} {
		h, e := steward.New(words)
		if h != nil || e != api.ErrArg {
			t.Errorf("New(%d): %v, %d", words, h, e)
		}
	}
	for _, words := range []int{1, 2, 63, 64, 65, 4095, 4096} {
		h := newHeap(t, words)
		wantRuns(t, h, span(0, words))
		for at := -1; at <= words; at++ {
			wantFree(t, h, at, api.ErrPlace)
			wantLoad(t, h, at, 0, api.ErrPlace)
		}
	}
}

// P4: the bounds of a block's size.
func TestP4Sizes(t *testing.T) {
	h := newHeap(t, 200)
	for _, n := range []int{math.MinInt, -1, 0, 65, 100, math.MaxInt} {
		wantAlloc(t, h, n, 0, api.ErrArg)
	}
	wantAlloc(t, h, 1, 0, api.OK)
	wantAlloc(t, h, 64, 1, api.OK)
	wantAlloc(t, h, 63, 65, api.OK)
	wantRuns(t, h, span(128, 72))
}

// P4: the first run with room is taken, not the tightest and not the widest.
func TestP4FirstRunWithRoom(t *testing.T) {
	h := newHeap(t, 30)
	for i := range 6 {
		wantAlloc(t, h, 5, 5*i, api.OK)
	}
	wantFree(t, h, 5, api.OK)
	wantFree(t, h, 15, api.OK)
	wantFree(t, h, 20, api.OK)
	wantAlloc(t, h, 3, 5, api.OK)
	wantRuns(t, h, span(8, 2), span(15, 10))
	wantAlloc(t, h, 3, 15, api.OK)
	wantAlloc(t, h, 2, 8, api.OK)
	wantAlloc(t, h, 8, 0, api.ErrFull)
	wantAlloc(t, h, 7, 18, api.OK)
	wantRuns(t, h)
	wantAlloc(t, h, 1, 0, api.ErrFull)
}

// P4: free words that are not all one behind the other make no room together.
func TestP4NoRoomInPieces(t *testing.T) {
	h := newHeap(t, 4096)
	for i := range 4096 {
		wantAlloc(t, h, 1, i, api.OK)
	}
	wantAlloc(t, h, 1, 0, api.ErrFull)
	var want []api.Span
	for i := 1; i < 4096; i += 2 {
		wantFree(t, h, i, api.OK)
		want = append(want, span(i, 1))
	}
	wantRuns(t, h, want...)
	wantAlloc(t, h, 2, 0, api.ErrFull)
	wantFree(t, h, 4094, api.OK)
	wantAlloc(t, h, 4, 0, api.ErrFull)
	wantAlloc(t, h, 3, 4093, api.OK)
}

// P4: a block ends whole, alone, once, and by its first word only.
func TestP4Free(t *testing.T) {
	h := newHeap(t, 12)
	wantAlloc(t, h, 4, 0, api.OK)
	wantAlloc(t, h, 4, 4, api.OK)
	wantAlloc(t, h, 4, 8, api.OK)
	for _, at := range []int{-1, 1, 3, 5, 7, 9, 11, 12} {
		wantFree(t, h, at, api.ErrPlace)
	}
	wantFree(t, h, 4, api.OK)
	wantFree(t, h, 4, api.ErrPlace)
	wantRuns(t, h, span(4, 4))
	wantAlloc(t, h, 1, 4, api.OK)
	wantAlloc(t, h, 2, 5, api.OK)
	wantFree(t, h, 6, api.ErrPlace)
	wantFree(t, h, 5, api.OK)
	wantRuns(t, h, span(5, 3))
	wantFree(t, h, 0, api.OK)
	wantRuns(t, h, span(0, 4), span(5, 3))
	wantFree(t, h, 4, api.OK)
	wantRuns(t, h, span(0, 8))
	wantFree(t, h, 8, api.OK)
	wantRuns(t, h, span(0, 12))
}

// P4 and P5: a new block's words are 0, whatever an ended block left there.
func TestP4NewWordsAreZero(t *testing.T) {
	h := newHeap(t, 8)
	wantAlloc(t, h, 8, 0, api.OK)
	for at := range 8 {
		wantStore(t, h, at, 999-at, api.OK)
	}
	wantFree(t, h, 0, api.OK)
	wantAlloc(t, h, 3, 0, api.OK)
	wantAlloc(t, h, 5, 3, api.OK)
	for at := range 8 {
		wantLoad(t, h, at, 0, api.OK)
	}
}

// P5: each value is held, by its word alone, until the next is stored.
func TestP5LoadAndStore(t *testing.T) {
	h := newHeap(t, 5)
	wantAlloc(t, h, 2, 0, api.OK)
	wantAlloc(t, h, 2, 2, api.OK)
	for value := range 1000 {
		wantStore(t, h, 1, value, api.OK)
		wantLoad(t, h, 1, value, api.OK)
	}
	for _, value := range []int{math.MinInt, -1, 1000, 1001, math.MaxInt} {
		wantStore(t, h, 1, value, api.ErrArg)
		wantLoad(t, h, 1, 999, api.OK)
	}
	wantLoad(t, h, 0, 0, api.OK)
	wantLoad(t, h, 2, 0, api.OK)
	wantStore(t, h, 3, 5, api.OK)
	wantLoad(t, h, 1, 999, api.OK)
	wantLoad(t, h, 3, 5, api.OK)
	wantStore(t, h, 4, 5, api.ErrPlace)
	wantLoad(t, h, 4, 0, api.ErrPlace)
}

// P5: an ended block's words can be neither read nor written; its neighbours' keep what they hold.
func TestP5EndedBlock(t *testing.T) {
	h := newHeap(t, 6)
	for i := range 3 {
		wantAlloc(t, h, 2, 2*i, api.OK)
		wantStore(t, h, 2*i, 10+i, api.OK)
		wantStore(t, h, 2*i+1, 20+i, api.OK)
	}
	wantFree(t, h, 2, api.OK)
	for _, at := range []int{2, 3} {
		wantLoad(t, h, at, 0, api.ErrPlace)
		wantStore(t, h, at, 1, api.ErrPlace)
	}
	wantLoad(t, h, 0, 10, api.OK)
	wantLoad(t, h, 1, 20, api.OK)
	wantLoad(t, h, 4, 12, api.OK)
	wantLoad(t, h, 5, 22, api.OK)
}

// P5: Runs of a heap that is empty, full, and free at its ends or in its middle.
func TestP5Runs(t *testing.T) {
	h := newHeap(t, 3)
	wantRuns(t, h, span(0, 3))
	for i := range 3 {
		wantAlloc(t, h, 1, i, api.OK)
	}
	wantRuns(t, h)
	wantFree(t, h, 1, api.OK)
	wantRuns(t, h, span(1, 1))
	wantFree(t, h, 2, api.OK)
	wantRuns(t, h, span(1, 2))
	wantAlloc(t, h, 2, 1, api.OK)
	wantFree(t, h, 0, api.OK)
	wantRuns(t, h, span(0, 1))
}
