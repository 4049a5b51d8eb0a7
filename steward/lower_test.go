package steward_test

import (
	"strings"
	"testing"

	"steward/api"
	"steward/steward"
)

// wantLower looks at Lower twice: of its own text it must change nothing, if that is not too long.
func wantLower(t *testing.T, s string, want string) {
	t.Helper()
	got, e := steward.Lower(s)
	if e != api.OK || got != want {
		t.Errorf("Lower(%q): %q, %d; want %q", s, got, e, want)
	}
	if len(want) > api.MaxText {
		wantLowerError(t, want, api.ErrLong)
		return
	}
	again, e := steward.Lower(want)
	if e != api.OK || again != want {
		t.Errorf("Lower(%q): %q, %d; want it as it is", want, again, e)
	}
}

func wantLowerError(t *testing.T, s string, e api.Errno) {
	t.Helper()
	got, gotE := steward.Lower(s)
	if gotE != e || got != "" {
		t.Errorf("Lower(%.40q): %q, %d; want nothing, %d", s, got, gotE, e)
	}
}

// eachBox writes something for each of the boxes A to Z; V stands for the box.
func eachBox(form string) string {
	s := ""
	for box := 'A'; box <= 'Z'; box++ {
		s += strings.ReplaceAll(form, "V", string(box))
	}
	return s
}

// The document's own examples.
func TestLowerDocumentExamples(t *testing.T) {
	wantLower(t, "A=[1];A=[2];", "A=[1];~A;A=[2];~A;")
	wantLower(t, "A=[1];?a{~A;}{}", "A=[1];?a{~A;}{~A;}")
	wantLower(t, "A=[1];B=[2];@a{A=[3];C=[4];}", "A=[1];B=[2];@a{~A;A=[3];C=[4];~C;}~A;~B;")
	wantLowerError(t, "A=[1];@a{~A;A=[2];?b{~A;}{}}", api.ErrEmpty)
}

// P10: Check's errors, in Check's order.
func TestP10Errors(t *testing.T) {
	wantLowerError(t, strings.Repeat("a", api.MaxText+1), api.ErrLong)
	wantLowerError(t, strings.Repeat("a=1;", 101), api.ErrLong)
	wantLowerError(t, strings.Repeat("~A;", 134), api.ErrLong)
	wantLowerError(t, "a", api.ErrSyntax)
	wantLowerError(t, "A=[1];}", api.ErrSyntax)
	wantLowerError(t, "A=[1];?a{}", api.ErrSyntax)
	wantLowerError(t, "a=#A;a=1", api.ErrSyntax)
	wantLowerError(t, " ", api.ErrSyntax)
	wantLowerError(t, "~A;"+strings.Repeat("@1{", api.MaxDeep+1), api.ErrDeep)
	wantLowerError(t, strings.Repeat("?1{", api.MaxDeep+1), api.ErrDeep)
	for _, s := range []string{"~A;", "A=A;", "A=B;", "a=#A;", "a=A[0];", "A[0]=1;", "A=[1];~A;~A;", "?a{A=[1];}{}~A;", "@a{A=[1];}~A;", "@0{~A;}"} {
		wantLowerError(t, s, api.ErrEmpty)
	}
}

// P10: where no box is full there is nothing to put in, and each byte stays.
func TestP10NothingToEnd(t *testing.T) {
	for _, s := range append(sentences("a", "007"), sentences("00", "z")...) {
		if !strings.ContainsAny(s, "AZ") {
			wantLower(t, s, s)
		}
	}
	for _, s := range []string{"", "a=000;", "?a{}{}", "@a{}", "?0{!1;}{!2;}@1{a=b<09;}!a;", "A=[1];~A;", "?a{A=[64];~A;}{}", "@a{A=[0];~A;}", "A=[1];?a{~A;}{~A;}", "A=[1];B=A;~B;", "A=[1];B=[2];~A;A=B;~A;"} {
		wantLower(t, s, s)
	}
}

// P10: ahead of V=[o]; and V=W;, just if V is full there.
func TestP10GetsABlock(t *testing.T) {
	wantLower(t, "A=[1];A=[1];A=[1];~A;", "A=[1];~A;A=[1];~A;A=[1];~A;")
	wantLower(t, "A=[1];~A;A=[1];~A;", "A=[1];~A;A=[1];~A;")
	wantLower(t, "A=[1];B=[1];~A;~B;", "A=[1];B=[1];~A;~B;")
	wantLower(t, "A=[1];B=[1];A=B;~A;", "A=[1];B=[1];~A;A=B;~A;")
	wantLower(t, "A=[1];B=[1];B=A;~B;", "A=[1];B=[1];~B;B=A;~B;")
	wantLower(t, "A=[1];B=A;A=B;~A;", "A=[1];B=A;A=B;~A;")
	wantLower(t, "A=[1];B=A;A=[2];B=A;~B;", "A=[1];B=A;A=[2];~B;B=A;~B;")
	wantLower(t, "A=[1];A=A;A=A;~A;", "A=[1];A=A;A=A;~A;")
	wantLower(t, "Z=[a];Y=[b];Z=Y;Y=[03];Z=[064];~Y;~Z;", "Z=[a];Y=[b];~Z;Z=Y;Y=[03];~Z;Z=[064];~Y;~Z;")
	wantLower(t, "A=[1];A[0]=1;a=A[0];a=#A;!a;~A;", "A=[1];A[0]=1;a=A[0];a=#A;!a;~A;")
}

// P10: the end of the text, with its boxes in the letters' order.
func TestP10EndOfText(t *testing.T) {
	wantLower(t, "A=[1];", "A=[1];~A;")
	wantLower(t, "Z=[1];", "Z=[1];~Z;")
	wantLower(t, "C=[1];A=[1];B=[1];", "C=[1];A=[1];B=[1];~A;~B;~C;")
	wantLower(t, "C=[1];A=[1];B=[1];D=A;~B;", "C=[1];A=[1];B=[1];D=A;~B;~C;~D;")
	wantLower(t, eachBox("V=[1];"), eachBox("V=[1];")+eachBox("~V;"))
	wantLower(t, "?a{A=[1];}{A=[2];}", "?a{A=[1];}{A=[2];}~A;")
	wantLower(t, "A=[1];@a{!a;}", "A=[1];@a{!a;}~A;")
	backwards := ""
	for box := 'Z'; box >= 'A'; box-- {
		backwards += string(box) + "=[2];"
	}
	wantLower(t, backwards, backwards+eachBox("~V;"))
}

// P10: the end of both S of a ?: what is full there and not behind it.
func TestP10Branches(t *testing.T) {
	wantLower(t, "A=[1];?a{}{~A;}", "A=[1];?a{~A;}{~A;}")
	wantLower(t, "?a{A=[1];}{}", "?a{A=[1];~A;}{}")
	wantLower(t, "?a{}{A=[1];}", "?a{}{A=[1];~A;}")
	wantLower(t, "?a{A=[1];}{B=[1];}", "?a{A=[1];~A;}{B=[1];~B;}")
	wantLower(t, "?a{B=[1];C=[1];A=[1];}{D=[1];B=[1];}", "?a{B=[1];C=[1];A=[1];~A;~C;}{D=[1];B=[1];~D;}~B;")
	wantLower(t, "A=[1];?a{!1;}{!2;}~A;", "A=[1];?a{!1;}{!2;}~A;")
	wantLower(t, "A=[1];?a{A=[2];}{A=[3];}a=#A;", "A=[1];?a{~A;A=[2];}{~A;A=[3];}a=#A;~A;")
	wantLower(t, "A=[1];?a{B=A;}{}", "A=[1];?a{B=A;~B;}{~A;}")
	wantLower(t, "A=[1];?a{B=A;}{B=[2];}", "A=[1];?a{B=A;}{B=[2];~A;}~B;")
	wantLower(t, "A=[1];?a{~A;}{}A=[1];", "A=[1];?a{~A;}{~A;}A=[1];~A;")
	wantLower(t, "A=[1];?a{~A;}{}?b{A=[1];}{}", "A=[1];?a{~A;}{~A;}?b{A=[1];~A;}{}")
	wantLower(t, "A=[1];?a{?b{~A;}{}}{}", "A=[1];?a{?b{~A;}{~A;}}{~A;}")
	wantLower(t, "A=[1];?a{}{?b{}{~A;}}", "A=[1];?a{~A;}{?b{~A;}{~A;}}")
	wantLower(t, "A=[1];?a{?b{}{}~A;}{?b{}{}}", "A=[1];?a{?b{}{}~A;}{?b{}{}~A;}")
	wantLower(t, "?a{"+eachBox("V=[1];")+"}{}", "?a{"+eachBox("V=[1];")+eachBox("~V;")+"}{}")
	wantLower(t, eachBox("V=[1];")+"?a{}{"+eachBox("~V;")+"}", eachBox("V=[1];")+"?a{"+eachBox("~V;")+"}{"+eachBox("~V;")+"}")
}

// P10: ahead of a loop what is not in its set H, and at the end of its S too.
func TestP10Loops(t *testing.T) {
	wantLower(t, "@a{A=[1];}", "@a{A=[1];~A;}")
	wantLower(t, "@a{A=[1];A=[2];}", "@a{A=[1];~A;A=[2];~A;}")
	wantLower(t, "A=[1];@a{A=[2];}", "A=[1];@a{~A;A=[2];}~A;")
	wantLower(t, "A=[1];@a{A=[2];~A;}", "A=[1];~A;@a{A=[2];~A;}")
	wantLower(t, "A=[1];@a{~A;A=[2];}", "A=[1];@a{~A;A=[2];}~A;")
	wantLower(t, "A=[1];@a{B=A;A=B;}", "A=[1];@a{B=A;A=B;}~A;")
	wantLower(t, "A=[1];B=[2];@a{C=A;A=B;B=C;}", "A=[1];B=[2];@a{C=A;A=B;B=C;}~A;~B;")
	wantLower(t, "B=[1];A=[1];@a{A=[2];B=A;}", "B=[1];A=[1];~A;@a{A=[2];~B;B=A;}~B;")
	wantLower(t, "B=[1];A=[1];@a{B=[2];A=[1];~A;~B;}", "B=[1];A=[1];~A;~B;@a{B=[2];A=[1];~A;~B;}")
	wantLower(t, "A=[1];@a{A=[1];?a{~A;}{}}", "A=[1];~A;@a{A=[1];?a{~A;}{~A;}}")
	wantLower(t, "A=[1];@a{A=[1];?a{~A;}{B=[1];}C=[2];}A=[3];", "A=[1];~A;@a{A=[1];?a{~A;}{B=[1];~A;~B;}C=[2];~C;}A=[3];~A;")
	wantLower(t, "A=[1];@a{@b{B=A;A=[2];}}", "A=[1];@a{@b{B=A;A=[2];~B;}}~A;")
	wantLower(t, "A=[1];@a{@b{A=[2];~A;}}", "A=[1];~A;@a{@b{A=[2];~A;}}")
	wantLower(t, "@a{A=[1];@b{A=[2];~A;}}", "@a{A=[1];~A;@b{A=[2];~A;}}")
	wantLower(t, "A=[1];@a{@b{!1;}A=[1];~A;}", "A=[1];~A;@a{@b{!1;}A=[1];~A;}")
	wantLower(t, "?a{A=[1];@b{A=[2];~A;}}{A=[1];}", "?a{A=[1];~A;@b{A=[2];~A;}}{A=[1];~A;}")
	wantLower(t, "@a{"+eachBox("V=[1];")+"}", "@a{"+eachBox("V=[1];")+eachBox("~V;")+"}")
	wantLower(t, "A=[1];@0{}@a{}", "A=[1];@0{}@a{}~A;")
}

// P10: eight braces deep, each with its ends; and a text with as many bytes as may be.
func TestP10DeepAndLong(t *testing.T) {
	branches, lowered := "~A;~Z;", "~A;~Z;"
	for range api.MaxDeep {
		branches = "?a{" + branches + "}{}"
		lowered = "?a{" + lowered + "}{~A;~Z;}"
	}
	wantLower(t, "Z=[1];A=[1];"+branches, "Z=[1];A=[1];"+lowered)
	loops, lowered := "", ""
	for range api.MaxDeep {
		loops = "@a{A=[1];" + loops + "B=[1];}"
		lowered = "@a{~A;A=[1];" + lowered + "B=[1];~B;}"
	}
	wantLower(t, "A=[1];"+loops, "A=[1];"+lowered+"~A;")
	long := strings.Repeat("A=[1];", 65) + "a=A[1];!1;"
	if len(long) != api.MaxText {
		t.Fatalf("a text of %d bytes", len(long))
	}
	wantLower(t, long, "A=[1];"+strings.Repeat("~A;A=[1];", 64)+"a=A[1];!1;~A;")
	wantLowerError(t, long+"!", api.ErrLong)
}

// P10: what is put in may be many times what was there, but never more than MaxLow bytes, and Exec takes it.
func TestP10NeverTooLong(t *testing.T) {
	tail := eachBox("~V;")
	for range api.MaxDeep {
		tail = "?a{" + tail + "}{}"
	}
	most := 0
	for _, s := range []string{
		eachBox("V=[1];") + tail,
		"?a{" + eachBox("V=[1];") + "}{}" + eachBox("V=[1];"),
		eachBox("V=[1];") + eachBox("V=[1];"),
		strings.Repeat("@a{A=[1];}", 40),
		strings.Repeat("?a{A=[1];}{}", 33),
	} {
		got, e := steward.Lower(s)
		if e != api.OK || len(got) > api.MaxLow {
			t.Errorf("Lower(%q): %d bytes, %d", s, len(got), e)
		}
		done, e := steward.Exec(got, api.MaxWords, api.MaxFuel)
		if e != api.OK || done.Status != api.Ended || done.Used != 0 {
			t.Errorf("Exec of Lower(%q): %+v, %d", s, done, e)
		}
		most = max(most, len(got))
	}
	if most < 2*api.MaxText {
		t.Errorf("the longest of these has only %d bytes", most)
	}
}
