// Package steward: programs in which every block of memory has one owner: see DOC.md.
package steward

import (
	"steward/api"
	"steward/full"
	"steward/heap"
	"steward/lower"
	"steward/program"
	"steward/run"
)

// Heap is words, some of which are in blocks.
type Heap struct {
	inner heap.Heap
}

// New makes a heap (P3).
func New(words int) (*Heap, api.Errno) {
	inner, e := heap.New(words)
	if e != api.OK {
		return nil, e
	}
	return &Heap{inner: inner}, api.OK
}

// Alloc makes a block, and tells where it begins (P4).
func (h *Heap) Alloc(n int) (int, api.Errno) { return h.inner.Alloc(n) }

// Free ends the block that begins at a place (P4).
func (h *Heap) Free(at int) api.Errno { return h.inner.Free(at) }

// Load reads a word of a block (P5).
func (h *Heap) Load(at int) (int, api.Errno) { return h.inner.Load(at) }

// Store writes a word of a block (P5).
func (h *Heap) Store(at int, value int) api.Errno { return h.inner.Store(at, value) }

// Runs tells what is free (P5).
func (h *Heap) Runs() []api.Span { return h.inner.Runs() }

// Check tells whether a text is a program in which no box is used that may be empty (P6, P7).
func Check(s string) (api.Errno, int) {
	if len(s) > api.MaxText {
		return api.ErrLong, 0
	}
	parts, e, place := program.Read(s)
	if e != api.OK {
		return e, place
	}
	around := full.Find(parts)
	place, found := full.FirstEmpty(parts, around)
	if found {
		return api.ErrEmpty, place
	}
	return api.OK, 0
}

// Play runs a program as it is written (P8).
func Play(s string, fuel int) (api.Outcome, api.Errno) {
	e, _ := Check(s)
	if e != api.OK {
		return api.Outcome{}, e
	}
	parts, _, _ := program.Read(s)
	return run.Play(parts, fuel)
}

// Exec runs a lowered program on a heap (P9).
func Exec(t string, words int, fuel int) (api.Outcome, api.Errno) {
	if len(t) > api.MaxLow {
		return api.Outcome{}, api.ErrLong
	}
	parts, e, _ := program.Read(t)
	if e != api.OK {
		return api.Outcome{}, e
	}
	return run.Exec(parts, words, fuel)
}

// Lower puts into a program what gives its blocks back (P10).
func Lower(s string) (string, api.Errno) {
	e, _ := Check(s)
	if e != api.OK {
		return "", e
	}
	parts, _, _ := program.Read(s)
	around := full.Find(parts)
	return lower.Text(s, parts, around), api.OK
}
