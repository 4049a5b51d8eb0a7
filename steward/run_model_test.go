package steward_test

import (
	"strconv"
	"strings"
	"testing"

	"steward/api"
	"steward/steward"
)

// going: a run that has not ended.
const going = -1

// modelRun does the sentences of a text as the table, P8 and P9 say them, on the text itself; a ? and a @ call it anew for their S.
type modelRun struct {
	strict  bool
	fuel    int
	numbers map[string]int
	blocks  map[string][]int // by the letters of the boxes that have one
	begins  map[string]int   // where on the heap these begin
	taken   []bool           // the words of the heap
	trace   string
	peak    int
}

// modelPlay gives what P8 asks for a program and fuel that have no error; modelExec what P9 asks.
func modelPlay(s string, fuel int) api.Outcome {
	m := &modelRun{fuel: fuel, numbers: map[string]int{}, blocks: map[string][]int{}}
	status := m.all(s)
	return api.Outcome{Status: max(status, api.Ended), Trace: m.trace}
}

func modelExec(s string, words int, fuel int) api.Outcome {
	m := &modelRun{strict: true, fuel: fuel, numbers: map[string]int{}, blocks: map[string][]int{}, begins: map[string]int{}, taken: make([]bool, words)}
	status := m.all(s)
	used := 0
	for _, block := range m.blocks {
		used += len(block)
	}
	return api.Outcome{Status: max(status, api.Ended), Trace: m.trace, Used: used, Peak: m.peak}
}

func (m *modelRun) all(s string) int {
	for s != "" {
		status := going
		switch s[0] {
		case '?':
			s, status = m.branch(s)
		case '@':
			s, status = m.loop(s)
		default:
			sentence, rest, _ := strings.Cut(s, ";")
			s, status = rest, m.flat(sentence)
		}
		if status != going {
			return status
		}
	}
	return going
}

// braced cuts a text that begins with a brace behind the brace that closes it.
func braced(s string) (string, string) {
	open := 0
	for i := range len(s) {
		switch s[i] {
		case '{':
			open++
		case '}':
			open--
		}
		if open == 0 {
			return s[1:i], s[i+1:]
		}
	}
	return "", ""
}

func (m *modelRun) branch(s string) (string, int) {
	at := strings.Index(s, "{")
	first, rest := braced(s[at:])
	second, rest := braced(rest)
	switch {
	case m.fuel == 0:
		return rest, api.Tired
	case m.value(s[1:at]) != 0:
		m.fuel--
		return rest, m.all(first)
	}
	m.fuel--
	return rest, m.all(second)
}

func (m *modelRun) loop(s string) (string, int) {
	at := strings.Index(s, "{")
	inside, rest := braced(s[at:])
	for m.fuel > 0 {
		m.fuel--
		if m.value(s[1:at]) == 0 {
			return rest, going
		}
		status := m.all(inside)
		if status != going {
			return rest, status
		}
	}
	return rest, api.Tired
}

func (m *modelRun) value(o string) int {
	value, err := strconv.Atoi(o)
	if err != nil {
		return m.numbers[o]
	}
	return value
}

func (m *modelRun) has(box string) bool {
	_, has := m.blocks[box]
	return has
}

func (m *modelRun) flat(s string) int {
	if s[0] == '~' {
		return m.end(s[1:])
	}
	if m.fuel == 0 {
		return api.Tired
	}
	m.fuel--
	left, right, _ := strings.Cut(s, "=")
	switch {
	case s[0] == '!':
		m.trace += strconv.Itoa(m.value(s[1:])) + ";"
		return going
	case len(left) > 1:
		return m.store(left, m.value(right))
	case left >= "a":
		return m.toNumber(left, right)
	case right[0] == '[':
		return m.make(left, m.value(right[1:len(right)-1]))
	}
	return m.move(left, right)
}

func (m *modelRun) toNumber(v string, right string) int {
	switch {
	case right[0] == '#':
		if !m.has(right[1:]) {
			return api.Broken
		}
		m.numbers[v] = len(m.blocks[right[1:]])
		return going
	case strings.HasSuffix(right, "]"):
		block, has := m.blocks[right[:1]]
		at := m.value(right[2 : len(right)-1])
		if !has {
			return api.Broken
		}
		if at >= len(block) {
			return api.Trapped
		}
		m.numbers[v] = block[at]
		return going
	}
	sign := strings.IndexAny(right, "+-*/<")
	if sign < 0 {
		m.numbers[v] = m.value(right)
		return going
	}
	o, p := m.value(right[:sign]), m.value(right[sign+1:])
	switch right[sign] {
	case '+':
		m.numbers[v] = (o + p) % 1000
	case '-':
		m.numbers[v] = (1000 + o - p) % 1000
	case '*':
		m.numbers[v] = o * p % 1000
	case '/':
		if p == 0 {
			return api.Trapped
		}
		m.numbers[v] = (o - o%p) / p
	case '<':
		m.numbers[v] = 0
		if o < p {
			m.numbers[v] = 1
		}
	}
	return going
}

func (m *modelRun) store(left string, value int) int {
	block, has := m.blocks[left[:1]]
	at := m.value(left[2 : len(left)-1])
	switch {
	case !has:
		return api.Broken
	case at >= len(block):
		return api.Trapped
	}
	block[at] = value
	return going
}

func (m *modelRun) make(box string, n int) int {
	switch {
	case m.strict && m.has(box):
		return api.Broken
	case n == 0 || n > 64:
		return api.Trapped
	case m.strict && !m.place(box, n):
		return api.Crowded
	}
	m.blocks[box] = make([]int, n)
	return going
}

// place looks for the first n words that are free, one behind the other.
func (m *modelRun) place(box string, n int) bool {
	free := 0
	for at, taken := range m.taken {
		free++
		if taken {
			free = 0
		}
		if free == n {
			m.begins[box] = at + 1 - n
			m.fill(box, n, true)
			m.peak = max(m.peak, at+1)
			return true
		}
	}
	return false
}

func (m *modelRun) fill(box string, n int, taken bool) {
	for i := range n {
		m.taken[m.begins[box]+i] = taken
	}
}

func (m *modelRun) move(to string, from string) int {
	switch {
	case !m.has(from):
		return api.Broken
	case to == from:
		return going
	case m.strict && m.has(to):
		return api.Broken
	}
	m.blocks[to] = m.blocks[from]
	delete(m.blocks, from)
	if m.strict {
		m.begins[to] = m.begins[from]
	}
	return going
}

func (m *modelRun) end(box string) int {
	if !m.has(box) {
		return api.Broken
	}
	if m.strict {
		m.fill(box, len(m.blocks[box]), false)
	}
	delete(m.blocks, box)
	return going
}

// comparePlay and compareExec tell how the runs ended, for the counts; -1 if Check refuses the text.
func comparePlay(t *testing.T, s string, fuel int) int {
	t.Helper()
	got, gotE := steward.Play(s, fuel)
	e, _ := steward.Check(s)
	if e != api.OK {
		if gotE != e || got != (api.Outcome{}) {
			t.Fatalf("Play(%q, %d): %+v, %d; want error %d", s, fuel, got, gotE, e)
		}
		return -1
	}
	want := modelPlay(s, fuel)
	if gotE != api.OK || got != want {
		t.Fatalf("Play(%q, %d): %+v, %d; want %+v", s, fuel, got, gotE, want)
	}
	return got.Status
}

func compareExec(t *testing.T, s string, words int, fuel int) int {
	t.Helper()
	got, e := steward.Exec(s, words, fuel)
	want := modelExec(s, words, fuel)
	if e != api.OK || got != want {
		t.Fatalf("Exec(%q, %d, %d): %+v, %d; want %+v", s, words, fuel, got, e, want)
	}
	return got.Status
}

// pick draws one of some texts; those that stand there twice come twice as often.
func (d *draw) pick(list ...string) string { return list[d.below(len(list))] }

func (d *draw) operand() string {
	return d.pick("a", "b", "c", "a", "b", "0", "1", "1", "2", "3", "02", "5", "64", "999")
}

func (d *draw) flatText() string {
	v, o, p := d.pick("a", "b", "c"), d.operand(), d.operand()
	V, W := d.pick("A", "B", "C"), d.pick("A", "B", "C")
	switch d.below(11) {
	case 0:
		return v + "=" + o + ";"
	case 1, 2:
		return v + "=" + o + d.pick("+", "-", "*", "/", "<", "+", "-") + p + ";"
	case 3:
		return v + "=" + V + "[" + d.pick("0", "0", "1", o) + "];"
	case 4:
		return v + "=#" + V + ";"
	case 5:
		return V + "[" + d.pick("0", "0", "1", o) + "]=" + p + ";"
	case 6, 7:
		return V + "=[" + d.pick("1", "2", "3", "4", o) + "];"
	case 8:
		return V + "=" + W + ";"
	case 9:
		return "~" + V + ";"
	}
	return "!" + o + ";"
}

func (d *draw) text(most int, deep int) string {
	s := ""
	for range d.below(most + 1) {
		kind := d.below(10)
		switch {
		case deep > 0 && kind < 1:
			s += "?" + d.operand() + "{" + d.text(most, deep-1) + "}{" + d.text(most, deep-1) + "}"
		case deep > 0 && kind < 2:
			s += "@" + d.operand() + "{" + d.text(most, deep-1) + "}"
		case deep > 0 && kind < 4:
			v := d.pick("a", "b", "c")
			s += v + "=" + d.pick("1", "2", "3") + ";@" + v + "{" + d.text(most, deep-1) + v + "=" + v + "-1;}"
		default:
			s += d.flatText()
		}
	}
	return s
}

// P8: programs drawn by a fixed rule, each with several fuels; each end must be frequent, so that the rule is worth something.
func TestP8DrawnPrograms(t *testing.T) {
	d := &draw{state: 3}
	ends := map[int]int{}
	for range 20000 {
		s := d.pick("", "A=[2];", "A=[1];B=[3];", "A=[4];B=[1];C=[2];") + d.text(6, 3)
		for _, fuel := range []int{d.below(10), d.below(60), 300} {
			ends[comparePlay(t, s, fuel)]++
		}
	}
	for _, status := range []int{api.Ended, api.Trapped, api.Tired} {
		if ends[status] < 1000 {
			t.Errorf("only %d of the runs ended with %d", ends[status], status)
		}
	}
}

// P9: the same of Exec, on small heaps.
func TestP9DrawnPrograms(t *testing.T) {
	d := &draw{state: 4}
	ends := map[int]int{}
	for range 20000 {
		s := d.pick("", "A=[2];", "A=[1];B=[3];", "A=[4];B=[1];C=[2];") + d.text(6, 3)
		for _, fuel := range []int{d.below(10), d.below(60), 300} {
			ends[compareExec(t, s, 1+d.below(12), fuel)]++
		}
	}
	for _, status := range []int{api.Ended, api.Trapped, api.Tired, api.Crowded, api.Broken} {
		if ends[status] < 1000 {
			t.Errorf("only %d of the runs ended with %d", ends[status], status)
		}
	}
}

// shortRow are sentences that each do something to two boxes on a heap of three words.
var shortRow = []string{"A=[1];", "A=[2];", "B=[1];", "B=[2];", "A=[0];", "A=B;", "B=A;", "A=A;", "~A;", "~B;", "A[0]=7;", "a=B[0];", "a=#A;", "!a;", "a=A[1];"}

// P8, P9: each row of four of these, with fuel for all and for some; what the boxes have in the end is looked at by more of them.
func TestRunsEachShortRow(t *testing.T) {
	for _, w := range shortRow {
		for _, x := range shortRow {
			for _, y := range shortRow {
				for _, z := range shortRow {
					s := w + x + y + z
					compareExec(t, s, 3, 9)
					compareExec(t, s+"B[0]=5;a=A[0];!a;", 2, 5)
					comparePlay(t, s+"a=B[0];!a;", 9)
				}
			}
		}
	}
}
