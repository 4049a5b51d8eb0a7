package steward_test

import (
	"regexp"
	"strings"
	"testing"

	"steward/api"
	"steward/steward"
)

const operandForm = `([a-z]|[0-9]{1,3})`

var (
	flatForm = regexp.MustCompile(strings.ReplaceAll(`[a-z]=(O([-+*/<]O)?|[A-Z]\[O\]|#[A-Z]);|[A-Z]=(\[O\]|[A-Z]);|[A-Z]\[O\]=O;|~[A-Z];|!O;`, "O", operandForm))
	deepForm = regexp.MustCompile(strings.ReplaceAll(`\?O\{\.*\}\{\.*\}|@O\{\.*\}`, "O", operandForm))
	allDots  = regexp.MustCompile(`^\.*$`)
)

// isProgram tells whether a text is one of sentences, by putting a dot for each sentence, the innermost first.
func isProgram(s string) bool {
	if strings.Contains(s, ".") {
		return false
	}
	s = flatForm.ReplaceAllString(s, ".")
	for {
		next := deepForm.ReplaceAllString(s, ".")
		if next == s {
			return allDots.MatchString(s)
		}
		s = next
	}
}

// rests: what can be behind each beginning of a sentence, so that it becomes whole; the braces around it stay open.
var rests = []string{"", ";", "1;", "=1;", "A;", "=A;", "];", "1];", "[1];", "]=1;", "1]=1;", "1{}{}", "{}{}", "}{}", "{}", "}", "1{}"}

// canBegin tells whether some program begins with a text: it tries all rests with all ways to close the open braces.
func canBegin(s string) bool {
	ways := []string{""}
	for range strings.Count(s, "{") - strings.Count(s, "}") {
		for _, way := range ways {
			ways = append(ways, way+"}", way+"}{}")
		}
	}
	for _, rest := range rests {
		for _, way := range ways {
			if isProgram(s + rest + way) {
				return true
			}
		}
	}
	return false
}

// wantBeginning checks a text by which a program can begin.
func wantBeginning(t *testing.T, s string) {
	t.Helper()
	e, place := steward.Check(s)
	if !isProgram(s) {
		if e != api.ErrSyntax || place != len(s) {
			t.Fatalf("Check(%q): %d, %d; want ErrSyntax at its end", s, e, place)
		}
		return
	}
	if e != api.OK && e != api.ErrEmpty {
		t.Fatalf("Check(%q): %d, %d; want a program", s, e, place)
	}
}

// tryBytes puts each of some bytes behind a beginning, and goes on from those that can stand there.
func tryBytes(t *testing.T, s string, bytes string, more int) {
	t.Helper()
	wantBeginning(t, s)
	if more == 0 {
		return
	}
	for i := range len(bytes) {
		next := s + bytes[i:i+1]
		if canBegin(next) {
			tryBytes(t, next, bytes, more-1)
			continue
		}
		wantCheck(t, next, api.ErrSyntax, len(s))
		wantCheck(t, next+";}", api.ErrSyntax, len(s))
	}
}

// P6: all short texts, with one letter, digit and sign for all that are alike.
func TestP6AllShortTexts(t *testing.T) {
	tryBytes(t, "", "aA1=;[]{}?@~!#+", 6)
	for _, s := range []string{"a=1", "a=A[1", "A[1]=1", "a=1+1", "?1{}", "?1{!1;}{", "@1{?1{}", "?1{?1{}{", "@a{!a;"} {
		tryBytes(t, s, "aA1=;[]{}?@~!#+", 4)
	}
}

// P6: each of all 256 bytes in each place of some texts in which each place of each sentence is.
func TestP6AllBytes(t *testing.T) {
	for _, s := range []string{
		"a=1;", "a=b;", "a=12;", "a=123;", "a=b+c;", "a=12-34;", "a=123*456;", "a=b/1;", "a=1<b;", "a=A[123];", "a=A[b];", "a=#A;", "A=[b];", "A=[123];", "A=B;", "A[123]=456;", "A[b]=c;", "~A;", "!123;", "!a;", "?a{!1;}{!2;}!3;", "?123{}{}", "@a{!1;}!2;", "@123{}",
	} {
		for place := 0; place <= len(s); place++ {
			wantBeginning(t, s[:place])
			for b := range 256 {
				next := s[:place] + string([]byte{byte(b)})
				if !canBegin(next) {
					wantCheck(t, next, api.ErrSyntax, place)
					wantCheck(t, next+s, api.ErrSyntax, place)
				} else {
					wantBeginning(t, next)
				}
			}
		}
	}
}

// node is a sentence as P7 sees it.
type node struct {
	text   string
	make   int // the box that gets a new block, -1: none
	end    int // the box whose block ends
	to     int // V and W of V=W;
	from   int
	use    int // the box that is used, and its letter's place in the sentence
	letter int
	first  []node // both S of a ?, the one S of a @
	second []node
	branch bool
	loop   bool
}

func (n node) write() string {
	switch {
	case n.branch:
		return n.text + "{" + writeAll(n.first) + "}{" + writeAll(n.second) + "}"
	case n.loop:
		return n.text + "{" + writeAll(n.first) + "}"
	}
	return n.text
}

func writeAll(list []node) string {
	s := ""
	for _, n := range list {
		s += n.write()
	}
	return s
}

// boxLetters are the boxes of the drawn programs: few, so that all sets of them can be tried.
const boxLetters = "AMYZ"

// fullBehind says P7 to the letter; a loop's set is looked for among all sets there are.
func fullBehind(t *testing.T, list []node, full int) int {
	for _, n := range list {
		switch {
		case n.branch:
			full = fullBehind(t, n.first, full) & fullBehind(t, n.second, full)
		case n.loop:
			full = loopSet(t, n, full)
		case n.make >= 0:
			full |= 1 << n.make
		case n.end >= 0:
			full &^= 1 << n.end
		case n.to >= 0 && n.to != n.from:
			had := full >> n.from & 1
			full &^= 1<<n.from | 1<<n.to
			full |= had << n.to
		}
	}
	return full
}

// loopSet tries all sets; the greatest must hold all that fit.
func loopSet(t *testing.T, n node, ahead int) int {
	fits := 0
	for h := range 1 << len(boxLetters) {
		if h&^ahead == 0 && h&^fullBehind(t, n.first, h) == 0 {
			fits |= h
		}
	}
	if fits&^fullBehind(t, n.first, fits) != 0 {
		t.Fatalf("there is no greatest set for %q", n.write())
	}
	return fits
}

// firstEmpty gives the place of the first letter of a used box that is not full, -1 if there is none.
func firstEmpty(t *testing.T, list []node, full int, place int) int {
	for i, n := range list {
		found := -1
		switch {
		case n.branch:
			found = firstEmpty(t, n.first, full, place+len(n.text)+1)
			if found < 0 {
				found = firstEmpty(t, n.second, full, place+len(n.text)+1+len(writeAll(n.first))+2)
			}
		case n.loop:
			found = firstEmpty(t, n.first, loopSet(t, n, full), place+len(n.text)+1)
		case n.use >= 0 && full>>n.use&1 == 0:
			found = place + n.letter
		}
		if found >= 0 {
			return found
		}
		full = fullBehind(t, list[i:i+1], full)
		place += len(n.write())
	}
	return -1
}

func compareCheck(t *testing.T, list []node) {
	t.Helper()
	s := writeAll(list)
	if len(s) > api.MaxText {
		wantCheck(t, s, api.ErrLong, 0)
		return
	}
	place := firstEmpty(t, list, 0, 0)
	if place >= 0 {
		wantCheck(t, s, api.ErrEmpty, place)
	} else {
		wantCheck(t, s, api.OK, 0)
	}
}

// flatNodes: each sentence without braces, for the first boxes of boxLetters.
func flatNodes(boxes int) []node {
	none := node{make: -1, end: -1, to: -1, from: -1, use: -1}
	list := []node{}
	add := func(n node, text string) {
		n.text = text
		list = append(list, n)
	}
	add(none, "a=b-12;")
	for v := range boxes {
		V := boxLetters[v : v+1]
		n := none
		n.make = v
		add(n, V+"=[1];")
		n = none
		n.use = v
		n.letter = 2
		add(n, "a="+V+"[0];")
		n.letter = 3
		add(n, "a=#"+V+";")
		n.letter = 0
		add(n, V+"[0]=1;")
		n.letter = 1
		n.end = v
		add(n, "~"+V+";")
		for w := range boxes {
			n = none
			n.to, n.from, n.use, n.letter = v, w, w, 2
			add(n, V+"="+boxLetters[w:w+1]+";")
		}
	}
	return list
}

// draw is a fixed row of numbers.
type draw struct{ state int }

func (d *draw) below(n int) int {
	d.state = (d.state*1103515245 + 12345) % (1 << 31)
	return (d.state >> 8) % n
}

func (d *draw) sentences(flat []node, most int, deep int) []node {
	var list []node
	for range d.below(most + 1) {
		kind := d.below(10)
		switch {
		case deep > 0 && kind < 2:
			list = append(list, node{text: "?a", branch: true, first: d.sentences(flat, most, deep-1), second: d.sentences(flat, most, deep-1)})
		case deep > 0 && kind < 5:
			list = append(list, node{text: "@12", loop: true, first: d.sentences(flat, most, deep-1)})
		default:
			list = append(list, flat[d.below(len(flat))])
		}
	}
	return list
}

// makes begins a program with a block in each of some boxes, so that not all that follows fails at once.
func makes(flat []node, boxes int) []node {
	var list []node
	for _, n := range flat {
		if n.make >= 0 && n.make < boxes {
			list = append(list, n)
		}
	}
	return list
}

// eachShortRow makes each row of three sentences with two boxes, straight on, in both S of a ?, in a loop, in a loop in a loop, and split at their ends.
func eachShortRow(do func(list []node)) {
	flat := flatNodes(2)
	begin := makes(flat, 2)
	for _, x := range flat {
		for _, y := range flat {
			for _, z := range flat {
				loop := node{text: "@a", loop: true, first: []node{x, y}}
				do([]node{x, y, z})
				do(append(begin[:2:2], x, y, z))
				do(append(begin[:2:2], node{text: "?a", branch: true, first: []node{x}, second: []node{y}}, z))
				do(append(begin[:2:2], loop, z))
				do(append(begin[:2:2], node{text: "@a", loop: true, first: []node{loop, z}}, x))
				do(append(begin[:2:2], node{text: "@a", loop: true, first: []node{x, node{text: "?a", branch: true, first: []node{y}}, z}}))
			}
		}
	}
}

// P7: each short row.
func TestP7EachShortRow(t *testing.T) {
	eachShortRow(func(list []node) { compareCheck(t, list) })
}

// P7: programs with four boxes and braces within braces, drawn by a fixed rule; both answers must be frequent, so that the rule is worth something.
func TestP7DrawnPrograms(t *testing.T) {
	flat := flatNodes(len(boxLetters))
	d := &draw{state: 1}
	good, bad := 0, 0
	for range 30000 {
		list := append(makes(flat, d.below(len(boxLetters)+1)), d.sentences(flat, 5, 3)...)
		compareCheck(t, list)
		e, _ := steward.Check(writeAll(list))
		switch e {
		case api.OK:
			good++
		case api.ErrEmpty:
			bad++
		}
	}
	if good < 3000 || bad < 3000 {
		t.Errorf("of the drawn programs only %d are good and %d bad", good, bad)
	}
}

// P1: texts of any bytes are answered, with an error of Check's and a place in the text.
func TestP1AllTexts(t *testing.T) {
	d := &draw{state: 7}
	const bytes = "aA1=;[]{}?@~!#+<.\x00\xff"
	for range 100000 {
		s := ""
		for range d.below(12) {
			at := d.below(len(bytes))
			s += bytes[at : at+1]
		}
		e, place := steward.Check(s)
		switch e {
		case api.OK:
			if place != 0 || !isProgram(s) {
				t.Fatalf("Check(%q): OK, %d", s, place)
			}
		case api.ErrSyntax:
			if place < 0 || place > len(s) || isProgram(s) || !(place == 0 || canBegin(s[:place])) {
				t.Fatalf("Check(%q): ErrSyntax, %d", s, place)
			}
		case api.ErrEmpty:
			if place < 0 || place >= len(s) || s[place] != 'A' || !isProgram(s) {
				t.Fatalf("Check(%q): ErrEmpty, %d", s, place)
			}
		default:
			t.Fatalf("Check(%q): %d, %d", s, e, place)
		}
	}
}
