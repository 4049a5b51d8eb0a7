// Package run: does what the sentences of a program say.
package run

import (
	"strconv"

	"steward/api"
	"steward/heap"
	"steward/program"
)

// machine is a run of a program.
type machine struct {
	parts   []program.Part
	next    int // the index of the part that comes next
	strict  bool
	fuel    int // the steps that may still be done
	numbers [program.Numbers]int
	boxes   boxes
	trace   []byte
	over    bool
	status  int
}

// Play runs what program.Read gave of a text that Check finds OK (P8). It does so on a heap that is never crowded: when a block is made there are at most 25 others with 64 words each, so that one of the free runs around them, 26 at most, has 96 or more.
func Play(parts []program.Part, fuel int) (api.Outcome, api.Errno) {
	m, e := begin(parts, api.MaxWords, fuel)
	if e != api.OK {
		return api.Outcome{}, e
	}
	m.run()
	return api.Outcome{Status: m.status, Trace: string(m.trace)}, api.OK
}

// Exec runs what program.Read gave strictly, on a heap of so many words (P9).
func Exec(parts []program.Part, words int, fuel int) (api.Outcome, api.Errno) {
	m, e := begin(parts, words, fuel)
	if e != api.OK {
		return api.Outcome{}, e
	}
	m.strict = true
	m.run()
	return api.Outcome{Status: m.status, Trace: string(m.trace), Used: m.boxes.used(), Peak: m.boxes.peak}, api.OK
}

func begin(parts []program.Part, words int, fuel int) (machine, api.Errno) {
	h, e := heap.New(words)
	if e != api.OK {
		return machine{}, e
	}
	if fuel < 0 || fuel > api.MaxFuel {
		return machine{}, api.ErrArg
	}
	return machine{parts: parts, fuel: fuel, boxes: boxes{heap: h}}, api.OK
}

// run ends, because the only way back is to a Loop, which is a step.
func (m *machine) run() {
	for !m.over && m.next < len(m.parts) {
		part := m.parts[m.next]
		m.next++
		m.part(part)
	}
}

func (m *machine) stop(status int) {
	m.over = true
	m.status = status
}

// part does one part, or stops ahead of it.
func (m *machine) part(part program.Part) {
	if isStep(part) {
		if m.fuel == 0 {
			m.stop(api.Tired)
			return
		}
		m.fuel--
	}
	if m.strict && m.breaks(part) {
		m.stop(api.Broken)
		return
	}
	m.do(part)
}

// isStep: a Loop is one each time that it looks, because each round comes back to it.
func isStep(part program.Part) bool {
	switch part.Kind {
	case program.End, program.Middle, program.Join, program.Again:
		return false
	}
	return true
}

// breaks tells whether a part uses an empty box, or would make a box lose its block.
func (m *machine) breaks(part program.Part) bool {
	box, _, uses := part.Used()
	if uses && !m.boxes.full(box) {
		return true
	}
	return part.Gets() && m.boxes.full(part.Box)
}

func (m *machine) do(part program.Part) {
	switch part.Kind {
	case program.Reckon:
		m.reckon(part)
	case program.Print:
		m.print(m.value(part.First))
	case program.Load:
		m.load(part)
	case program.Size:
		m.numbers[part.Number] = m.boxes.blocks[part.Box].Len
	case program.Make:
		m.newBlock(part)
	case program.Move:
		m.move(part)
	case program.Store:
		m.store(part)
	case program.End:
		m.boxes.lose(part.Box)
	default:
		m.turn(part)
	}
}

// turn does the parts that say which part comes next.
func (m *machine) turn(part program.Part) {
	switch part.Kind {
	case program.Branch, program.Loop:
		if m.value(part.First) == 0 {
			m.next = part.Closer + 1
		}
	case program.Middle:
		m.next = part.Closer
	case program.Again:
		m.next = part.Opener
	}
}

// value tells the value that an operand stands for.
func (m *machine) value(o program.Operand) int {
	if o.IsNumber {
		return m.numbers[o.Value]
	}
	return o.Value
}

func (m *machine) reckon(part program.Part) {
	o := m.value(part.First)
	p := m.value(part.Second)
	result, found := reckoned(o, part.Sign, p)
	if !found {
		m.stop(api.Trapped)
		return
	}
	m.numbers[part.Number] = result
}

// reckoned tells what comes out of two values; false if nothing does.
func reckoned(o int, sign byte, p int) (int, bool) {
	switch sign {
	case '+':
		return (o + p) % api.Mod, true
	case '-':
		return (o - p + api.Mod) % api.Mod, true
	case '*':
		return o * p % api.Mod, true
	case '/':
		if p == 0 {
			return 0, false
		}
		return o / p, true
	case '<':
		if o < p {
			return 1, true
		}
		return 0, true
	}
	return o, true
}

func (m *machine) print(value int) {
	m.trace = append(m.trace, strconv.Itoa(value)...)
	m.trace = append(m.trace, ';')
}

func (m *machine) load(part program.Part) {
	at, found := m.boxes.word(part.Box, m.value(part.First))
	if !found {
		m.stop(api.Trapped)
		return
	}
	value, _ := m.boxes.heap.Load(at)
	m.numbers[part.Number] = value
}

func (m *machine) store(part program.Part) {
	at, found := m.boxes.word(part.Box, m.value(part.First))
	if !found {
		m.stop(api.Trapped)
		return
	}
	m.boxes.heap.Store(at, m.value(part.Second))
}

// newBlock lets the box lose what it had only once it is sure that it does not trap. In a strict run it has nothing to lose.
func (m *machine) newBlock(part program.Part) {
	n := m.value(part.First)
	if n < 1 || n > api.MaxBlock {
		m.stop(api.Trapped)
		return
	}
	m.boxes.lose(part.Box)
	if !m.boxes.get(part.Box, n) {
		m.stop(api.Crowded)
	}
}

func (m *machine) move(part program.Part) {
	if part.Gets() {
		m.boxes.lose(part.Box)
		m.boxes.move(part.Box, part.Source)
	}
}
