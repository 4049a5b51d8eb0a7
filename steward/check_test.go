package steward_test

import (
	"strings"
	"testing"

	"steward/api"
	"steward/steward"
)

func wantCheck(t *testing.T, s string, e api.Errno, place int) {
	t.Helper()
	gotE, gotPlace := steward.Check(s)
	if gotE != e || gotPlace != place {
		t.Errorf("Check(%q): %d, %d; want %d, %d", s, gotE, gotPlace, e, place)
	}
}

// operands: both ends of the letters and of the digits, one to three digits, and zeros ahead.
var operands = []string{"a", "m", "z", "0", "9", "10", "00", "100", "007", "000", "999"}

// sentences makes each sentence of the document's table with o and p; a box in it is A or Z.
func sentences(o string, p string) []string {
	list := []string{
		"a=" + o + ";", "z=" + o + ";", "a=A[" + o + "];", "z=Z[" + o + "];", "a=#A;", "z=#Z;",
		"A=[" + o + "];", "Z=[" + o + "];", "A=Z;", "A=A;", "A[" + o + "]=" + p + ";", "Z[" + o + "]=" + p + ";",
		"~A;", "~Z;", "!" + o + ";", "?" + o + "{}{}", "@" + o + "{}",
		"?" + o + "{!1;a=2;}{!3;!4;}", "@" + o + "{!5;a=6;}",
	}
	for _, sign := range []string{"+", "-", "*", "/", "<"} {
		list = append(list, "a="+o+sign+p+";")
	}
	return list
}

// The document's own examples.
func TestCheckDocumentExamples(t *testing.T) {
	wantCheck(t, "", api.OK, 0)
	wantCheck(t, "a=1;", api.OK, 0)
	wantCheck(t, "a=1", api.ErrSyntax, 3)
	wantCheck(t, "a=1234;", api.ErrSyntax, 5)
	wantCheck(t, "a=b+;", api.ErrSyntax, 4)
	wantCheck(t, "A=1;", api.ErrSyntax, 2)
	wantCheck(t, "?a{}", api.ErrSyntax, 4)
	wantCheck(t, "}", api.ErrSyntax, 0)
	wantCheck(t, "@1{@1{@1{@1{@1{@1{@1{@1{@1{", api.ErrDeep, 26)
	wantCheck(t, "a=A[0];", api.ErrEmpty, 2)
	wantCheck(t, "A=[1];B=A;!1;a=#A;", api.ErrEmpty, 16)
	wantCheck(t, "?a{A=[1];}{}a=#A;", api.ErrEmpty, 15)
	wantCheck(t, "A=[1];?a{~A;}{~A;}", api.OK, 0)
	wantCheck(t, "A=[1];@a{B=A;}", api.ErrEmpty, 11)
	wantCheck(t, "A=[1];@a{B=A;A=B;}a=#A;", api.OK, 0)
	wantCheck(t, "A=[1];@a{~A;A=[2];?b{~A;}{}}", api.ErrEmpty, 10)
}

// P6: each sentence, with each operand, by itself and in each place where an S may stand.
func TestP6EachSentence(t *testing.T) {
	const made = "A=[1];Z=[1];"
	frames := [][2]string{{"", ""}, {"!1;", "!2;"}, {"?a{", "}{}"}, {"?1{}{", "}"}, {"@z{", made + "}"}, {"@1{?2{}{!3;", made + "}" + "}"}}
	for _, o := range operands {
		for _, p := range operands {
			for _, s := range sentences(o, p) {
				for _, f := range frames {
					wantCheck(t, made+f[0]+s+f[1], api.OK, 0)
				}
			}
		}
	}
}

// P6: a text that ends inside a sentence or an open brace has its length as the place.
func TestP6EndsTooEarly(t *testing.T) {
	const made = "A=[1];Z=[1];"
	for _, o := range []string{"a", "1", "12", "123"} {
		for _, s := range sentences(o, "z") {
			for cut := 1; cut < len(s); cut++ {
				wantCheck(t, s[:cut], api.ErrSyntax, cut)
				wantCheck(t, made+s[:cut], api.ErrSyntax, len(made)+cut)
			}
			for _, open := range []string{"@1{", "?1{", "?1{}{", "?1{@2{}", "@1{?2{}{}"} {
				wantCheck(t, made+open+s, api.ErrSyntax, len(made+open+s))
			}
		}
	}
}

// P6: an operand has no fourth digit and no second letter, wherever it stands.
func TestP6OperandIsOver(t *testing.T) {
	for _, c := range []struct{ head, tail string }{
		{"a=", ";"}, {"a=", "+1;"}, {"a=1+", ";"}, {"a=b/", ";"}, {"a=A[", "];"}, {"A=[", "];"}, {"A[", "]=1;"}, {"A[1]=", ";"}, {"!", ";"}, {"?", "{}{}"}, {"@", "{}"},
	} {
		for _, o := range []string{"123", "000", "a", "z"} {
			for _, more := range []string{"0", "9", "a", "A", " "} {
				wantCheck(t, c.head+o+more+c.tail, api.ErrSyntax, len(c.head+o))
			}
		}
		for _, no := range []string{"", "!1", "-1", "+1", " 1", "`", "{", "/", ":", "@", "[", "\xe9"} {
			wantCheck(t, c.head+no+c.tail, api.ErrSyntax, len(c.head))
		}
	}
}

// P6: 400 bytes are not too long, 401 are, whatever they are.
func TestP6Long(t *testing.T) {
	wantCheck(t, strings.Repeat("!1;a=2;!34;", 36)+"a=3;", api.OK, 0)
	wantCheck(t, strings.Repeat("a=1;", 100), api.OK, 0)
	wantCheck(t, strings.Repeat("a=1;", 99)+"a=12", api.ErrSyntax, 400)
	wantCheck(t, strings.Repeat("a=1;", 99)+"!12}", api.ErrSyntax, 399)
	wantCheck(t, strings.Repeat("a=1;", 99)+"A=A;", api.ErrEmpty, 398)
	for _, s := range []string{"a=1;", "}", "\x00", "@1{", "~A;"} {
		for n := 401; n < 412; n++ {
			wantCheck(t, strings.Repeat(s, n)[:n], api.ErrLong, 0)
		}
		wantCheck(t, strings.Repeat(s, 100000), api.ErrLong, 0)
	}
}

// P6: eight braces may be open, in each mixture of the three kinds; the ninth is told at its own place.
func TestP6Deep(t *testing.T) {
	open := []string{"?1{", "?22{}{", "@a{"}
	shut := []string{"}{}", "}", "}"}
	mixtures := 1
	for range api.MaxDeep {
		mixtures *= len(open)
	}
	for m := range mixtures {
		head, tail := "", ""
		rest := m
		for range api.MaxDeep {
			head = head + open[rest%3]
			tail = shut[rest%3] + tail
			rest /= 3
		}
		wantCheck(t, head+tail, api.OK, 0)
		wantCheck(t, head+"!1;"+tail+"@1{}"+head+tail, api.OK, 0)
		wantCheck(t, head, api.ErrSyntax, len(head))
		wantCheck(t, head+"@1{", api.ErrDeep, len(head)+2)
		wantCheck(t, head+"!1;?123{}{}"+tail, api.ErrDeep, len(head)+7)
		wantCheck(t, head+"{", api.ErrSyntax, len(head))
		wantCheck(t, head+"@1;", api.ErrSyntax, len(head)+2)
		wantCheck(t, head+tail+"}", api.ErrSyntax, len(head+tail))
		wantCheck(t, head+tail+head+"@z{}"+tail, api.ErrDeep, len(head+tail+head)+2)
	}
}

// P6: of several wrong things the first in the text is told; an empty box only if nothing else is wrong.
func TestP6FirstWrongThing(t *testing.T) {
	deep := strings.Repeat("@1{", 9)
	wantCheck(t, "a=1 "+deep, api.ErrSyntax, 3)
	wantCheck(t, deep+" ", api.ErrDeep, 26)
	wantCheck(t, "a=#A;"+deep, api.ErrDeep, 31)
	wantCheck(t, "a=#A; ", api.ErrSyntax, 5)
	wantCheck(t, "~A;!", api.ErrSyntax, 4)
	wantCheck(t, "a = 1;;", api.ErrSyntax, 1)
	wantCheck(t, "@1{"+strings.Repeat("}", 9), api.ErrSyntax, 4)
}

// P7: each sentence that uses a box, with the place of that box's letter; and those that use none.
func TestP7Uses(t *testing.T) {
	for _, o := range []string{"b", "0", "12", "999"} {
		for box := 'A'; box <= 'Z'; box++ {
			v := string(box)
			for _, c := range []struct {
				s     string
				place int
			}{
				{"a=" + v + "[" + o + "];", 2}, {"a=#" + v + ";", 3}, {v + "[" + o + "]=" + o + ";", 0}, {"~" + v + ";", 1}, {v + "=" + v + ";", 2},
			} {
				wantCheck(t, c.s, api.ErrEmpty, c.place)
				wantCheck(t, "!1;a=2;"+c.s, api.ErrEmpty, 7+c.place)
				wantCheck(t, v+"=["+o+"];"+c.s, api.OK, 0)
			}
			wantCheck(t, v+"=["+o+"];"+v+"=["+o+"];", api.OK, 0)
		}
	}
}

// P7: a move fills V just if W was full, empties W, and leaves all other boxes; V=V; leaves V too.
func TestP7Moves(t *testing.T) {
	for v := 'A'; v <= 'Z'; v++ {
		for w := 'A'; w <= 'Z'; w++ {
			if v == w {
				continue
			}
			V, W := string(v), string(w)
			wantCheck(t, V+"="+W+";", api.ErrEmpty, 2)
			wantCheck(t, V+"=[1];"+V+"="+W+";", api.ErrEmpty, 8)
			wantCheck(t, W+"=[1];"+V+"="+W+";a=#"+V+";", api.OK, 0)
			wantCheck(t, W+"=[1];"+V+"="+W+";a=#"+W+";", api.ErrEmpty, 13)
			wantCheck(t, W+"=[1];"+W+"="+W+";"+V+"="+W+";~"+V+";"+W+"=[1];~"+W+";", api.OK, 0)
		}
	}
	all := ""
	for v := 'A'; v <= 'Z'; v++ {
		all += string(v) + "=[1];"
	}
	for v := 'A'; v <= 'Z'; v++ {
		s := all + "M=N;?a{}{}@a{}~Q;a=#" + string(v) + ";"
		if v == 'N' || v == 'Q' {
			wantCheck(t, s, api.ErrEmpty, len(s)-2)
		} else {
			wantCheck(t, s, api.OK, 0)
		}
	}
}

// P7: both S of a ? begin with what is ahead of it; behind it is what both leave.
func TestP7Branches(t *testing.T) {
	wantCheck(t, "A=[1];?a{~A;}{a=#A;}", api.OK, 0)
	wantCheck(t, "A=[1];?a{~A;}{~A;}A=[2];~A;", api.OK, 0)
	wantCheck(t, "A=[1];?a{~A;}{}~A;", api.ErrEmpty, 16)
	wantCheck(t, "A=[1];?a{}{~A;}~A;", api.ErrEmpty, 16)
	wantCheck(t, "A=[1];?a{}{}~A;", api.OK, 0)
	wantCheck(t, "?a{A=[1];}{~A;}", api.ErrEmpty, 12)
	wantCheck(t, "?a{A=[1];}{A=[2];}~A;", api.OK, 0)
	wantCheck(t, "?a{}{A=[2];}~A;", api.ErrEmpty, 13)
	wantCheck(t, "?a{?b{A=[1];}{A=[2];}}{B=[1];A=B;}~A;", api.OK, 0)
	wantCheck(t, "?a{?b{A=[1];}{B=[2];}}{B=[1];A=B;}~A;", api.ErrEmpty, 35)
	wantCheck(t, "?0{~A;}{}", api.ErrEmpty, 4)
}

// P7: the set that a loop begins with: the greatest that its S keeps, also where it takes many rounds to find, and in loops within loops.
func TestP7Loops(t *testing.T) {
	wantCheck(t, "A=[1];@a{~A;A=[2];}~A;", api.OK, 0)
	wantCheck(t, "A=[1];@a{}~A;", api.OK, 0)
	wantCheck(t, "@a{A=[1];}~A;", api.ErrEmpty, 11)
	wantCheck(t, "@a{~A;A=[1];}", api.ErrEmpty, 4)
	wantCheck(t, "@0{~A;}", api.ErrEmpty, 4)
	wantCheck(t, "A=[1];B=[1];@a{C=A;A=B;B=C;}~A;~B;", api.OK, 0)
	wantCheck(t, "A=[1];B=[1];@a{C=A;A=B;B=C;}~A;~B;~C;", api.ErrEmpty, 35)
	wantCheck(t, "A=[1];B=[1];@a{a=#A;B=[2];@b{A=B;}}", api.ErrEmpty, 18)
	wantCheck(t, "A=[1];B=[1];@a{a=#A;@b{A=B;B=[2];}}~A;~B;", api.OK, 0)
	wantCheck(t, "A=[1];@a{@b{a=#A;}@c{@d{~A;}}A=[1];}", api.ErrEmpty, 25)
	wantCheck(t, "A=[1];@a{a=#A;@c{A=[1];?b{~A;}{}}}", api.ErrEmpty, 12)
	wantCheck(t, "A=[1];@a{a=#A;@c{?b{~A;}{}A=[1];}}~A;", api.OK, 0)
	wantCheck(t, "A=[1];@a{a=#A;@c{?b{~A;A=[2];}{}A=[1];}}~A;", api.OK, 0)
	made, chain := "", ""
	for v := 'A'; v < 'Z'; v++ {
		made += string(v) + "=[1];"
		chain = string(v+1) + "=" + string(v) + ";" + chain
	}
	wantCheck(t, made+"@a{"+chain+"}", api.ErrEmpty, len(made)+3+2)
	wantCheck(t, made+"@a{"+chain+"A=[1];}~A;~Y;", api.OK, 0)
	wantCheck(t, made+"@a{"+chain+"A=[1];}~A;~Z;", api.ErrEmpty, len(made)+3+len(chain)+7+4)
}

// P7: of several empty boxes the first in the text is told, also where a later sentence makes it empty.
func TestP7FirstInTheText(t *testing.T) {
	wantCheck(t, "~B;~A;", api.ErrEmpty, 1)
	wantCheck(t, "~A;~B;", api.ErrEmpty, 1)
	wantCheck(t, "?a{~C;}{~A;}~B;", api.ErrEmpty, 4)
	wantCheck(t, "A=[1];@a{!1;A[0]=1;!2;~A;}~A;", api.ErrEmpty, 12)
	wantCheck(t, "A=[1];B=[1];@a{@b{~B;}~A;}", api.ErrEmpty, 19)
}
