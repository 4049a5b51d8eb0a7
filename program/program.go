// Package program: the parts that the text of a program is made of.
package program

// Boxes is how many boxes there are, Numbers how many numbers.
const (
	Boxes   = 26
	Numbers = 26
)

// The kinds of parts. A sentence is one part, but a `?` is three and a `@` is two, cut at their braces: so a program is a plain list, however deep it is.
const (
	Reckon = 0  // v=o; v=o+p; v=o-p; v=o*p; v=o/p; v=o<p;
	Print  = 1  // !o;
	Load   = 2  // v=V[o];
	Size   = 3  // v=#V;
	Make   = 4  // V=[o];
	Move   = 5  // V=W;
	Store  = 6  // V[o]=p;
	End    = 7  // ~V;
	Branch = 8  // ?o{
	Middle = 9  // the }{ of a ?
	Join   = 10 // the last } of a ?
	Loop   = 11 // @o{
	Again  = 12 // the } of a @
)

// Operand is a value, or a number that stands for the value it holds.
type Operand struct {
	IsNumber bool
	Value    int // the value, or which number it is, from 0 on
}

// Part is a sentence or a piece of one.
type Part struct {
	Kind   int
	Place  int     // of its first byte in the text
	Number int     // v, from 0 on
	Box    int     // V, from 0 on
	Source int     // W, from 0 on
	First  Operand // o
	Sign   byte    // of Reckon: what stands between o and p; 0 if there is no p
	Second Operand // p
	Opener int     // of Middle, Join and Again: the index of the part whose brace it closes
	Closer int     // of Branch, Middle and Loop: the index of the part that closes its brace
}

// Used tells the box that a part uses and the place of that box's letter; false if it uses none.
func (p Part) Used() (int, int, bool) {
	switch p.Kind {
	case Load:
		return p.Box, p.Place + len("v="), true
	case Size:
		return p.Box, p.Place + len("v=#"), true
	case Store:
		return p.Box, p.Place, true
	case End:
		return p.Box, p.Place + len("~"), true
	case Move:
		return p.Source, p.Place + len("V="), true
	}
	return 0, 0, false
}

// Gets tells whether a part gives its box another block than it had.
func (p Part) Gets() bool {
	return p.Kind == Make || p.Kind == Move && p.Box != p.Source
}
