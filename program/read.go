package program

import "steward/api"

// maxDigits is how many digits a value is written with at most.
const maxDigits = 3

// reader goes through a text. Once something is wrong it takes no byte more, so that at stays the place to tell.
type reader struct {
	text  string
	at    int
	parts []Part
	open  []int // the indices of the parts whose brace is open, the innermost last
	wrong api.Errno
}

// Read cuts a text into its parts; or it tells the first thing that is wrong, and its place.
func Read(text string) ([]Part, api.Errno, int) {
	r := reader{text: text}
	for r.wrong == api.OK && r.at < len(text) {
		r.part()
	}
	if len(r.open) > 0 {
		r.refuse(api.ErrSyntax)
	}
	if r.wrong != api.OK {
		return nil, r.wrong, r.at
	}
	return r.parts, api.OK, 0
}

// part reads one part: at least one byte, if nothing is wrong.
func (r *reader) part() {
	first := r.peek()
	switch {
	case isNumber(first):
		r.toNumber(first)
	case isBox(first):
		r.toBox()
	case first == '~':
		r.ending()
	case first == '!':
		r.printing()
	case first == '?':
		r.opening(first, Branch)
	case first == '@':
		r.opening(first, Loop)
	case first == '}':
		r.closing()
	default:
		r.refuse(api.ErrSyntax)
	}
}

// toNumber reads a sentence that begins with a number's letter.
func (r *reader) toNumber(letter byte) {
	part := Part{Kind: Reckon, Place: r.at, Number: int(letter - 'a')}
	r.at++
	r.take('=')
	next := r.peek()
	switch {
	case next == '#':
		part.Kind = Size
		r.take('#')
		part.Box = r.box()
	case isBox(next):
		part.Kind = Load
		part.Box = r.box()
		part.First = r.index()
	default:
		r.reckoning(&part)
	}
	r.take(';')
	r.parts = append(r.parts, part)
}

// reckoning reads an operand, or two with a sign between them.
func (r *reader) reckoning(part *Part) {
	part.First = r.operand()
	sign := r.peek()
	switch sign {
	case '+', '-', '*', '/', '<':
		r.take(sign)
		part.Sign = sign
		part.Second = r.operand()
	}
}

// toBox reads a sentence that begins with a box's letter.
func (r *reader) toBox() {
	part := Part{Kind: Store, Place: r.at}
	part.Box = r.box()
	if r.peek() == '[' {
		part.First = r.index()
		r.take('=')
		part.Second = r.operand()
	} else {
		r.take('=')
		r.block(&part)
	}
	r.take(';')
	r.parts = append(r.parts, part)
}

// block reads where a box's block comes from.
func (r *reader) block(part *Part) {
	if r.peek() == '[' {
		part.Kind = Make
		part.First = r.index()
		return
	}
	part.Kind = Move
	part.Source = r.box()
}

func (r *reader) ending() {
	part := Part{Kind: End, Place: r.at}
	r.take('~')
	part.Box = r.box()
	r.take(';')
	r.parts = append(r.parts, part)
}

func (r *reader) printing() {
	part := Part{Kind: Print, Place: r.at}
	r.take('!')
	part.First = r.operand()
	r.take(';')
	r.parts = append(r.parts, part)
}

// opening reads the beginning of a ? or a @, up to its first brace.
func (r *reader) opening(sign byte, kind int) {
	part := Part{Kind: kind, Place: r.at}
	r.take(sign)
	part.First = r.operand()
	if r.peek() == '{' && len(r.open) >= api.MaxDeep {
		r.refuse(api.ErrDeep)
	}
	r.take('{')
	r.open = append(r.open, len(r.parts))
	r.parts = append(r.parts, part)
}

// closing reads what closes the innermost open brace. The second brace of a ? needs no look at the depth: it has no more around it than the first had.
func (r *reader) closing() {
	last := len(r.open) - 1
	if last < 0 {
		r.refuse(api.ErrSyntax)
		return
	}
	part := Part{Place: r.at, Opener: r.open[last]}
	r.open = r.open[:last]
	r.parts[part.Opener].Closer = len(r.parts)
	r.take('}')
	switch r.parts[part.Opener].Kind {
	case Branch:
		part.Kind = Middle
		r.take('{')
		r.open = append(r.open, len(r.parts))
	case Middle:
		part.Kind = Join
	default:
		part.Kind = Again
	}
	r.parts = append(r.parts, part)
}

// index reads an operand in brackets.
func (r *reader) index() Operand {
	r.take('[')
	inside := r.operand()
	r.take(']')
	return inside
}

func (r *reader) operand() Operand {
	first := r.peek()
	if isNumber(first) {
		r.at++
		return Operand{IsNumber: true, Value: int(first - 'a')}
	}
	if !isDigit(first) {
		r.refuse(api.ErrSyntax)
		return Operand{}
	}
	return Operand{Value: r.value()}
}

// value reads as many digits as there are, up to maxDigits.
func (r *reader) value() int {
	value := 0
	for n := 0; n < maxDigits; n++ {
		digit := r.peek()
		if !isDigit(digit) {
			return value
		}
		value = value*10 + int(digit-'0')
		r.at++
	}
	return value
}

// box reads the letter of a box and tells the box's number.
func (r *reader) box() int {
	letter := r.peek()
	if !isBox(letter) {
		r.refuse(api.ErrSyntax)
		return 0
	}
	r.at++
	return int(letter - 'A')
}

func (r *reader) take(c byte) {
	if r.peek() != c {
		r.refuse(api.ErrSyntax)
		return
	}
	r.at++
}

// peek tells the next byte; or, at the text's end and once something is wrong, 0, which can stand nowhere.
func (r *reader) peek() byte {
	if r.wrong != api.OK || r.at >= len(r.text) {
		return 0
	}
	return r.text[r.at]
}

// refuse notes what is wrong, if nothing was wrong before.
func (r *reader) refuse(e api.Errno) {
	if r.wrong == api.OK {
		r.wrong = e
	}
}

func isNumber(c byte) bool { return c >= 'a' && c <= 'z' }

func isBox(c byte) bool { return c >= 'A' && c <= 'Z' }

func isDigit(c byte) bool { return c >= '0' && c <= '9' }
