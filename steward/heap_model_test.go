package steward_test

import (
	"testing"

	"steward/api"
	"steward/steward"
)

// model says what P4 and P5 say, with a list of blocks and no thought of speed.
type model struct {
	words  int
	blocks []modelBlock
}

type modelBlock struct {
	at     int
	values []int
}

// find gives the number of the block that a word is in, -1 if it is in none.
func (m *model) find(at int) int {
	for i, b := range m.blocks {
		if at >= b.at && at < b.at+len(b.values) {
			return i
		}
	}
	return -1
}

func (m *model) isFree(at int) bool { return at >= 0 && at < m.words && m.find(at) < 0 }

func (m *model) runs() []api.Span {
	var list []api.Span
	for at := range m.words {
		if !m.isFree(at) || m.isFree(at-1) {
			continue
		}
		n := 1
		for m.isFree(at + n) {
			n++
		}
		list = append(list, span(at, n))
	}
	return list
}

func (m *model) alloc(n int) (int, api.Errno) {
	if n < 1 || n > 64 {
		return 0, api.ErrArg
	}
	for _, r := range m.runs() {
		if r.Len >= n {
			m.blocks = append(m.blocks, modelBlock{r.At, make([]int, n)})
			return r.At, api.OK
		}
	}
	return 0, api.ErrFull
}

func (m *model) free(at int) api.Errno {
	i := m.find(at)
	if i < 0 || m.blocks[i].at != at {
		return api.ErrPlace
	}
	m.blocks = append(m.blocks[:i:i], m.blocks[i+1:]...)
	return api.OK
}

func (m *model) load(at int) (int, api.Errno) {
	i := m.find(at)
	if i < 0 {
		return 0, api.ErrPlace
	}
	return m.blocks[i].values[at-m.blocks[i].at], api.OK
}

func (m *model) store(at int, value int) api.Errno {
	i := m.find(at)
	if i < 0 {
		return api.ErrPlace
	}
	if value < 0 || value > 999 {
		return api.ErrArg
	}
	m.blocks[i].values[at-m.blocks[i].at] = value
	return api.OK
}

// doBoth does one call to a heap and to its model: 0 to w+1 are Allocs, then come w+2 Frees and w+2 Stores, from word -1 on.
func doBoth(t *testing.T, h *steward.Heap, m *model, call int, value int) {
	t.Helper()
	w := m.words
	switch {
	case call < w+2:
		at, e := m.alloc(call)
		wantAlloc(t, h, call, at, e)
	case call < 2*(w+2):
		at := call - (w + 2) - 1
		wantFree(t, h, at, m.free(at))
	default:
		at := call - 2*(w+2) - 1
		wantStore(t, h, at, value, m.store(at, value))
	}
}

// P4 and P5: on small heaps each row of calls, up to a length, answers and leaves what the model says.
func TestEveryRowOfCalls(t *testing.T) {
	for words := 1; words <= 4; words++ {
		calls := 3 * (words + 2)
		for row := range calls * calls * calls * calls {
			h := newHeap(t, words)
			m := &model{words: words}
			rest := row
			for step := range 4 {
				doBoth(t, h, m, rest%calls, 5+step)
				rest /= calls
			}
			compare(t, h, m)
		}
	}
}

// P4 and P5: long rows of calls, drawn by a fixed rule, on heaps where blocks of all sizes come and go.
func TestLongRowsOfCalls(t *testing.T) {
	for _, words := range []int{1, 7, 64, 65, 200} {
		h := newHeap(t, words)
		m := &model{words: words}
		draw := 1
		for step := range 3000 {
			draw = (draw*1103515245 + 12345) % (1 << 31)
			doBoth(t, h, m, (draw>>8)%(3*(words+2)), step%1003-1)
			if step%50 == 0 {
				compare(t, h, m)
			}
		}
		compare(t, h, m)
	}
}

func compare(t *testing.T, h *steward.Heap, m *model) {
	t.Helper()
	wantRuns(t, h, m.runs()...)
	for at := -1; at <= m.words; at++ {
		value, e := m.load(at)
		wantLoad(t, h, at, value, e)
	}
}
