package steward_test

import (
	"regexp"
	"strings"
	"testing"

	"steward/api"
	"steward/steward"
)

// endsOf writes ~V; for each box of a set, by the letters' order.
func endsOf(set int) string {
	s := ""
	for v := range boxLetters {
		if set>>v&1 == 1 {
			s += "~" + boxLetters[v:v+1] + ";"
		}
	}
	return s
}

// lowerS says P10 of an S that begins with some boxes full, behind which only those of keep are to be.
func lowerS(t *testing.T, list []node, full int, keep int) string {
	s := ""
	for i, n := range list {
		behind := fullBehind(t, list[i:i+1], full)
		switch {
		case n.branch:
			s += n.text + "{" + lowerS(t, n.first, full, behind) + "}{" + lowerS(t, n.second, full, behind) + "}"
		case n.loop:
			s += endsOf(full&^behind) + n.text + "{" + lowerS(t, n.first, behind, behind) + "}"
		case n.make >= 0:
			s += endsOf(full&(1<<n.make)) + n.text
		case n.to >= 0 && n.to != n.from:
			s += endsOf(full&(1<<n.to)) + n.text
		default:
			s += n.text
		}
		full = behind
	}
	return s + endsOf(full&^keep)
}

// compareLower tells whether the text is a program of which something must end.
func compareLower(t *testing.T, list []node) bool {
	t.Helper()
	s := writeAll(list)
	e, _ := steward.Check(s)
	got, gotE := steward.Lower(s)
	want := ""
	if e == api.OK {
		want = lowerS(t, list, 0, 0)
	}
	if gotE != e || got != want {
		t.Fatalf("Lower(%q): %q, %d; want %q, %d", s, got, gotE, want, e)
	}
	if e == api.OK {
		compareAgain(t, got)
	}
	return got != "" && got != s
}

// compareAgain: Lower of what Lower answered is the same, if it is not too long.
func compareAgain(t *testing.T, low string) {
	t.Helper()
	again, e := steward.Lower(low)
	if len(low) > api.MaxText && (e != api.ErrLong || again != "") || len(low) <= api.MaxText && (e != api.OK || again != low) {
		t.Fatalf("Lower(%q): %q, %d", low, again, e)
	}
}

// P10: each short row.
func TestP10EachShortRow(t *testing.T) {
	eachShortRow(func(list []node) { compareLower(t, list) })
}

// P10: programs with four boxes and braces within braces, drawn by a fixed rule; enough of them must need something.
func TestP10DrawnPrograms(t *testing.T) {
	flat := flatNodes(len(boxLetters))
	begin := makes(flat, len(boxLetters))
	// Most of the sentences use a box: more that make a block let more of the drawn programs be good ones.
	for range 5 {
		flat = append(flat, begin...)
	}
	d := &draw{state: 5}
	changed := 0
	for range 20000 {
		boxes := d.below(len(begin) + 1)
		if compareLower(t, append(begin[:boxes:boxes], d.sentences(flat, 5, 3)...)) {
			changed++
		}
	}
	if changed < 5000 {
		t.Errorf("only %d of the drawn programs need something", changed)
	}
}

var endForm = regexp.MustCompile(`~[A-Z];`)

// compareRuns holds Exec of what Lower makes of a program against Play of the program; it tells how Exec ended, -1 if Check refuses the program.
func compareRuns(t *testing.T, s string, words int, fuel int) int {
	t.Helper()
	low, e := steward.Lower(s)
	if e != api.OK {
		return -1
	}
	if len(low) > api.MaxLow || endForm.ReplaceAllString(low, "") != endForm.ReplaceAllString(s, "") {
		t.Fatalf("Lower(%q): %q", s, low)
	}
	compareAgain(t, low)
	played, e := steward.Play(s, fuel)
	done, f := steward.Exec(low, words, fuel)
	if e != api.OK || f != api.OK || done.Status == api.Broken {
		t.Fatalf("%q as %q with %d words and fuel %d: %+v, %d; Play: %d", s, low, words, fuel, done, f, e)
	}
	right := done.Status == played.Status && done.Trace == played.Trace
	if done.Status == api.Crowded {
		right = words < 3264 && strings.HasPrefix(played.Trace, done.Trace)
	}
	if !right || done.Status == api.Ended && done.Used != 0 {
		t.Fatalf("%q as %q with %d words and fuel %d: %+v; Play: %+v", s, low, words, fuel, done, played)
	}
	return done.Status
}

// P10: what follows from it, of programs drawn by a fixed rule, on small heaps and on those that are never crowded; each end must be frequent.
func TestP10DrawnRuns(t *testing.T) {
	d := &draw{state: 6}
	ends := map[int]int{}
	for range 20000 {
		s := d.pick("", "A=[2];", "A=[1];B=[3];", "A=[4];B=[1];C=[2];") + d.text(6, 3)
		for _, fuel := range []int{d.below(10), d.below(60), 300} {
			ends[compareRuns(t, s, 1+d.below(12), fuel)]++
		}
		compareRuns(t, s, 3264+d.below(api.MaxWords-3264+1), 300)
	}
	for _, status := range []int{api.Ended, api.Trapped, api.Tired, api.Crowded} {
		if ends[status] < 500 {
			t.Errorf("only %d of the runs ended with %d", ends[status], status)
		}
	}
}

// P10: each row of four sentences, with fuel for all and for some, on heaps of one to four words.
func TestP10EachShortRun(t *testing.T) {
	for _, w := range shortRow {
		for _, x := range shortRow {
			for _, y := range shortRow {
				for _, z := range shortRow {
					compareRuns(t, w+x+y+z+"!9;", 3, 9)
					compareRuns(t, "A=[1];"+w+"c=2;@c{c=c-1;"+x+"?c{"+y+"!1;}{"+z+"!2;}}!3;", 4, 30)
				}
			}
		}
	}
}

// P10: with 3264 words there is always room, also for blocks of all 26 boxes that come and go with ever other sizes; with a few fewer than are needed at once there is not.
func TestP10Room(t *testing.T) {
	all := eachBox("V=[n];")
	next := "m=m*21;m=m+7;n=m/16;n=n+1;"
	for _, s := range []string{
		"n=64;" + all + all,
		"n=64;@n{" + all + "n=n-1;}",
		"@1{n=n+63;n=n<64;n=n*63;n=n+1;" + all + "}",
		"@1{" + next + all + "}",
		"@1{" + strings.ReplaceAll(next+all, "K=", next+"Z=J;K=") + "}",
		"@1{" + next + all[:13*6] + next + all[13*6:] + next + all[:6*6] + "}",
		"n=64;" + all + "@1{n=65-n;A=[n];C=[n];E=[n];G=[n];I=[n];K=[n];M=[n];O=[n];Q=[n];S=[n];U=[n];W=[n];Y=[n];}",
	} {
		for _, words := range []int{3264, 3265, api.MaxWords} {
			status := compareRuns(t, s, words, api.MaxFuel)
			if status != api.Ended && status != api.Tired {
				t.Errorf("%q with %d words: %d", s, words, status)
			}
		}
	}
	if status := compareRuns(t, "n=64;"+all+"!1;", 26*64, 99); status != api.Ended {
		t.Errorf("26 boxes on just as many words as they need: %d", status)
	}
	if status := compareRuns(t, "!1;n=64;"+all+"!1;", 26*64-1, 99); status != api.Crowded {
		t.Errorf("26 boxes on a word too few: %d", status)
	}
}

// P1, P2: texts of any bytes are answered with Check's error and no text, or with a text; and each time so.
func TestP1P2AllLowers(t *testing.T) {
	d := &draw{state: 12}
	const bytes = "aA1=;[]{}?@~!#+B.\x00\xff"
	for range 50000 {
		s := ""
		for range d.below(14) {
			at := d.below(len(bytes))
			s += bytes[at : at+1]
		}
		want, _ := steward.Check(s)
		low, e := steward.Lower(s)
		if e != want || e != api.OK && low != "" {
			t.Fatalf("Lower(%q): %q, %d; want %d", s, low, e, want)
		}
		again, e := steward.Lower(s)
		if e != want || again != low {
			t.Fatalf("Lower(%q): %q, then %q, %d", s, low, again, e)
		}
	}
}
