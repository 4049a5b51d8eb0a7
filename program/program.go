// Package program: the parts that the text of a program is made of.
package program

// Boxes is how many boxes there are.
const Boxes = 26

// The kinds of parts. A sentence is one part, but a `?` is three and a `@` is two, cut at their braces: so a program is a plain list, however deep it is.
const (
	Plain  = 0  // a sentence without a box
	Load   = 1  // v=V[o];
	Size   = 2  // v=#V;
	Make   = 3  // V=[o];
	Move   = 4  // V=W;
	Store  = 5  // V[o]=p;
	End    = 6  // ~V;
	Branch = 7  // ?o{
	Middle = 8  // the }{ of a ?
	Join   = 9  // the last } of a ?
	Loop   = 10 // @o{
	Again  = 11 // the } of a @
)

// Part is a sentence or a piece of one.
type Part struct {
	Kind   int
	Place  int // of its first byte in the text
	Box    int // V, from 0 on
	Source int // W, from 0 on
	Opener int // of Middle, Join and Again: the index of the part whose brace it closes
}

// Used tells the box that a part uses and the place of that box's letter; false if it uses none.
func (p Part) Used() (int, int, bool) {
	switch p.Kind {
	case Load:
		return p.Box, p.Place + len("v="), true
	case Size:
		return p.Box, p.Place + len("v=#"), true
	case Store:
		return p.Box, p.Place, true
	case End:
		return p.Box, p.Place + len("~"), true
	case Move:
		return p.Source, p.Place + len("V="), true
	}
	return 0, 0, false
}
