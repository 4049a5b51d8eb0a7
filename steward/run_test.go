package steward_test

import (
	"fmt"
	"math"
	"strconv"
	"strings"
	"testing"

	"steward/api"
	"steward/steward"
)

func wantPlay(t *testing.T, s string, fuel int, status int, trace string) {
	t.Helper()
	got, e := steward.Play(s, fuel)
	want := api.Outcome{Status: status, Trace: trace}
	if e != api.OK || got != want {
		t.Errorf("Play(%q, %d): %+v, %d; want %+v", s, fuel, got, e, want)
	}
}

func wantPlayError(t *testing.T, s string, fuel int, e api.Errno) {
	t.Helper()
	got, gotE := steward.Play(s, fuel)
	if gotE != e || got != (api.Outcome{}) {
		t.Errorf("Play(%.40q, %d): %+v, %d; want zeros, %d", s, fuel, got, gotE, e)
	}
}

func wantExec(t *testing.T, s string, words int, fuel int, want api.Outcome) {
	t.Helper()
	got, e := steward.Exec(s, words, fuel)
	if e != api.OK || got != want {
		t.Errorf("Exec(%.80q, %d, %d): %+v, %d; want %+v", s, words, fuel, got, e, want)
	}
}

func wantExecError(t *testing.T, s string, words int, fuel int, e api.Errno) {
	t.Helper()
	got, gotE := steward.Exec(s, words, fuel)
	if gotE != e || got != (api.Outcome{}) {
		t.Errorf("Exec(%.40q, %d, %d): %+v, %d; want zeros, %d", s, words, fuel, got, gotE, e)
	}
}

// wantEnd runs a text by Play, and by Exec on a heap of three words: both must end so.
func wantEnd(t *testing.T, s string, fuel int, status int) {
	t.Helper()
	played, e := steward.Play(s, fuel)
	if e != api.OK || played.Status != status {
		t.Errorf("Play(%q, %d): %+v, %d; want status %d", s, fuel, played, e, status)
	}
	done, e := steward.Exec(s, 3, fuel)
	if e != api.OK || done.Status != status {
		t.Errorf("Exec(%q, 3, %d): %+v, %d; want status %d", s, fuel, done, e, status)
	}
}

// The document's own examples.
func TestRunsDocumentExamples(t *testing.T) {
	const down = "a=5;@a{!a;a=a-1;}"
	wantPlay(t, down, 100, api.Ended, "5;4;3;2;1;")
	wantPlay(t, down, 5, api.Tired, "5;")
	wantPlay(t, down, 6, api.Tired, "5;4;")
	wantPlay(t, down, 16, api.Tired, "5;4;3;2;1;")
	wantPlay(t, down, 17, api.Ended, "5;4;3;2;1;")
	const outside = "A=[3];A[1]=7;a=A[1];!a;a=A[3];"
	wantPlay(t, outside, 9, api.Trapped, "7;")
	wantExec(t, outside, 10, 9, api.Outcome{Status: api.Trapped, Trace: "7;", Used: 3, Peak: 3})
	wantExec(t, "A=[3];A=[1];", 10, 9, api.Outcome{Status: api.Broken, Used: 3, Peak: 3})
	wantExec(t, "A=[3];A=[1];", 2, 9, api.Outcome{Status: api.Crowded})
	wantExec(t, "A=[3];~A;~A;", 10, 9, api.Outcome{Status: api.Broken, Peak: 3})
	wantExec(t, "A=[2];B=[2];~A;C=[3];", 9, 9, api.Outcome{Status: api.Ended, Used: 5, Peak: 7})
}

// P8: Check's error comes first, then the fuel's; both ends of what fuel may be.
func TestP8Errors(t *testing.T) {
	wrong := []int{math.MinInt, -1, api.MaxFuel + 1, math.MaxInt}
	for _, fuel := range append(wrong, 0, 1, api.MaxFuel) {
		wantPlayError(t, strings.Repeat("a", api.MaxText+1), fuel, api.ErrLong)
		wantPlayError(t, strings.Repeat("a=1;", 101), fuel, api.ErrLong)
		wantPlayError(t, "a=1", fuel, api.ErrSyntax)
		wantPlayError(t, "!1;}", fuel, api.ErrSyntax)
		wantPlayError(t, strings.Repeat("@1{", api.MaxDeep+1), fuel, api.ErrDeep)
		wantPlayError(t, "!1;a=#A;", fuel, api.ErrEmpty)
		wantPlayError(t, "?0{~A;}{}", fuel, api.ErrEmpty)
	}
	for _, fuel := range wrong {
		wantPlayError(t, "", fuel, api.ErrArg)
		wantPlayError(t, "!1;", fuel, api.ErrArg)
	}
	wantPlay(t, "", 0, api.Ended, "")
	wantPlay(t, "!1;", 0, api.Tired, "")
	wantPlay(t, "!1;", api.MaxFuel, api.Ended, "1;")
	wantPlay(t, strings.Repeat("a=1;", 99)+"!34;", api.MaxFuel, api.Ended, "34;")
}

var edges = []int{0, 1, 2, 3, 7, 10, 31, 32, 63, 64, 65, 99, 100, 255, 499, 500, 501, 998, 999}

// P8: what each sign makes of two values, written as digits, with zeros ahead and as numbers.
func TestP8Reckoning(t *testing.T) {
	for _, o := range edges {
		for _, p := range edges {
			less := 0
			if o < p {
				less = 1
			}
			difference := o - p
			if difference < 0 {
				difference += 1000
			}
			want := fmt.Sprintf("%d;%d;%d;%d;%d;", o, (o+p)%1000, difference, o*p%1000, less)
			status := api.Trapped
			if p != 0 {
				want += fmt.Sprintf("%d;%d;%d;", o/p, o, p)
				status = api.Ended
			}
			x, y := strconv.Itoa(o), strconv.Itoa(p)
			for _, pair := range [][2]string{{x, y}, {fmt.Sprintf("%03d", o), fmt.Sprintf("%03d", p)}, {"m", y}, {x, "z"}, {"m", "z"}} {
				s := "m=" + x + ";z=" + y + ";a=" + pair[0] + ";!a;"
				for _, sign := range []string{"+", "-", "*", "<", "/"} {
					s += "b=" + pair[0] + sign + pair[1] + ";!b;"
				}
				wantPlay(t, s+"!m;!z;", 99, status, want)
			}
		}
	}
}

// P8: a number may stand on both sides of its own sentence; each of the 26 holds its own value, 0 at first.
func TestP8Numbers(t *testing.T) {
	wantPlay(t, "a=3;a=a+a;!a;a=a*a;!a;a=a/a;!a;a=a-a;!a;a=a<a;!a;", 99, api.Ended, "6;36;1;0;0;")
	set, shown, want, zeros := "", "", "", ""
	for i := range 26 {
		v := string(rune('a' + i))
		set += v + "=" + strconv.Itoa(900+i) + ";"
		shown += "!" + v + ";"
		want += strconv.Itoa(900+i) + ";"
		zeros += "0;"
	}
	wantPlay(t, shown, 99, api.Ended, zeros)
	wantPlay(t, set+shown, 99, api.Ended, want)
	for i := range 26 {
		v := string(rune('a' + i))
		other := strings.Replace(want, strconv.Itoa(900+i), "5", 1)
		wantPlay(t, set+v+"=5;"+shown, 99, api.Ended, other)
	}
}

// P8: each value is printed by its digits alone.
func TestP8Prints(t *testing.T) {
	for value := range api.Mod {
		wantPlay(t, fmt.Sprintf("!%d;!%03d;a=%d;!a;", value, value, value), 4, api.Ended, fmt.Sprintf("%d;%d;%d;", value, value, value))
	}
	wantPlay(t, "!0;!00;!000;!07;!007;!070;!z;", 9, api.Ended, "0;0;0;7;7;70;0;")
	wantPlay(t, "@1{!999;}", api.MaxFuel, api.Tired, strings.Repeat("999;", api.MaxFuel/2))
}

// P8: how many steps a text has: with one less it is Tired, with so many it is not.
func TestP8Steps(t *testing.T) {
	for _, c := range []struct {
		s     string
		steps int
	}{
		{"", 0}, {"a=1;", 1}, {"a=1+2;", 1}, {"a=1-2;", 1}, {"a=1*2;", 1}, {"a=1/2;", 1}, {"a=1<2;", 1}, {"!1;", 1},
		{"A=[1];", 1}, {"A=[1];~A;", 1}, {"A=[1];A=A;", 2}, {"A=[1];B=A;", 2}, {"A=[1];a=#A;", 2}, {"A=[1];a=A[0];", 2}, {"A=[1];A[0]=1;", 2},
		{"A=[1];B=[1];C=[1];~A;~B;~C;", 3}, {"A=[1];~A;A=[1];~A;", 2},
		{"?0{}{}", 1}, {"?1{}{}", 1}, {"?1{!1;}{!2;!3;}", 2}, {"?0{!1;}{!2;!3;}", 3}, {"?1{?1{?1{}{}}{}}{}", 3}, {"?1{!1;}{}!2;", 3},
		{"@0{}", 1}, {"@0{!1;}", 1}, {"a=1;@a{a=0;}", 4}, {"a=3;@a{a=a-1;}", 8}, {"a=2;@a{b=2;@b{b=b-1;}a=a-1;}", 18}, {"a=2;@a{A=[1];a=a-1;~A;}", 8},
		{"@0{}@0{}", 2}, {"?1{@0{}}{}", 2}, {"a=1;@a{?a{a=0;}{}}", 5},
		{"a=119;@a{b=19;@b{b=b-1;}a=a-1;}", 2 + 119*(4+2*19)}, {"a=999;@a{a=a-1;}a=999;@a{a=a-1;}a=498;@a{a=a-1;}@0{}", 4999},
	} {
		if c.steps > 0 {
			wantEnd(t, c.s, 0, api.Tired)
			wantEnd(t, c.s, c.steps/2, api.Tired)
			wantEnd(t, c.s, c.steps-1, api.Tired)
		}
		wantEnd(t, c.s, c.steps, api.Ended)
		wantEnd(t, c.s, min(c.steps+1, api.MaxFuel), api.Ended)
		wantEnd(t, c.s, api.MaxFuel, api.Ended)
	}
}

// P8: a step is due ahead of what a sentence does: a sentence that would trap is Tired, if there is no fuel for it.
func TestP8TiredAheadOfTrap(t *testing.T) {
	for _, s := range []string{"a=1/0;", "A=[0];", "A=[65];"} {
		wantPlay(t, s, 0, api.Tired, "")
		wantPlay(t, s, 1, api.Trapped, "")
		wantPlay(t, "!1;"+s, 1, api.Tired, "1;")
		wantPlay(t, "!1;"+s+"!2;", 9, api.Trapped, "1;")
		wantPlay(t, "@1{!1;"+s+"}!2;", 9, api.Trapped, "1;")
		wantPlay(t, "?0{"+s+"}{!3;}!2;", 9, api.Ended, "3;2;")
	}
	wantPlay(t, "A=[1];a=A[1];", 1, api.Tired, "")
	wantPlay(t, "A=[1];a=A[1];", 2, api.Trapped, "")
	wantPlay(t, "A=[1];A[1]=1;", 1, api.Tired, "")
	wantPlay(t, "A=[1];A[1]=1;", 2, api.Trapped, "")
	wantPlay(t, "@1{}", 0, api.Tired, "")
	wantPlay(t, "@1{}", api.MaxFuel, api.Tired, "")
}

// P8: sizes 1 to 64 are made, with all words 0; words that are not there trap.
func TestP8Blocks(t *testing.T) {
	for n := 1; n <= api.MaxBlock; n++ {
		size, last := strconv.Itoa(n), strconv.Itoa(n-1)
		s := "n=" + size + ";A=[" + size + "];B=[n];b=#A;!b;b=#B;!b;i=n;@i{i=i-1;a=A[i];b=B[i];s=s+a;s=s+b;A[i]=i;B[i]=7;}!s;a=A[" + last + "];!a;a=A[0];!a;"
		wantPlay(t, s, 5000, api.Ended, size+";"+size+";0;"+last+";0;")
		wantPlay(t, s+"a=B["+last+"];!a;a=A["+size+"];!1;", 5000, api.Trapped, size+";"+size+";0;"+last+";0;7;")
		wantPlay(t, s+"A=[n];i=n;@i{i=i-1;a=A[i];s=s+a;}!s;A[n]=1;!1;", 5000, api.Trapped, size+";"+size+";0;"+last+";0;0;")
	}
	for _, n := range []int{0, 65, 66, 100, 128, 256, 999} {
		size := strconv.Itoa(n)
		wantPlay(t, "!1;A=["+size+"];!2;", 9, api.Trapped, "1;")
		wantPlay(t, "!1;a="+size+";A=[a];!2;", 9, api.Trapped, "1;")
	}
	for _, at := range []int{3, 4, 64, 65, 999} {
		word := strconv.Itoa(at)
		wantPlay(t, "Z=[5];A=[3];B=[5];!1;a=A["+word+"];!2;", 9, api.Trapped, "1;")
		wantPlay(t, "Z=[5];A=[3];B=[5];!1;A["+word+"]=5;!2;", 9, api.Trapped, "1;")
		wantPlay(t, "Z=[5];A=[3];B=[5];!1;i="+word+";A[i]=5;!2;", 9, api.Trapped, "1;")
	}
}

// P8: a box that gets a block loses what it had; a block that moved is the same block; V=V; does nothing.
func TestP8Boxes(t *testing.T) {
	wantPlay(t, "A=[2];A[1]=4;A=[3];a=#A;!a;a=A[1];!a;", 9, api.Ended, "3;0;")
	wantPlay(t, "A=[2];A[1]=4;A=A;A=A;a=#A;!a;a=A[1];!a;", 9, api.Ended, "2;4;")
	wantPlay(t, "A=[2];A[1]=4;B=A;a=#B;!a;a=B[1];!a;A=[1];A[0]=5;a=B[0];!a;a=B[1];!a;", 20, api.Ended, "2;4;0;4;")
	wantPlay(t, "A=[1];A[0]=1;B=[2];B[0]=2;A=B;a=#A;!a;a=A[0];!a;B=[1];a=B[0];!a;", 20, api.Ended, "2;2;0;")
	wantPlay(t, "A=[1];A[0]=1;B=[1];B[0]=2;C=A;A=B;B=C;a=A[0];!a;a=B[0];!a;", 20, api.Ended, "2;1;")
	wantPlay(t, "A=[2];A[1]=9;~A;A=[2];a=A[1];!a;", 20, api.Ended, "0;")
	set, want := "", ""
	for i := range 26 {
		V := string(rune('A' + i))
		set += V + "=[1];" + V + "[0]=" + strconv.Itoa(10+i) + ";"
		want += strconv.Itoa(10+i) + ";"
	}
	for first := range 24 {
		shown := ""
		for i := first; i < first+3; i++ {
			shown += "a=" + string(rune('A'+i)) + "[0];!a;"
		}
		wantPlay(t, set+shown, 99, api.Ended, want[first*3:first*3+9])
	}
}

// P8: there is always room, however the 26 boxes' blocks came and went.
func TestP8NeverCrowded(t *testing.T) {
	all := ""
	for i := range 26 {
		all += string(rune('A'+i)) + "=[n];"
	}
	wantPlay(t, "n=64;"+all+all, 99, api.Ended, "")
	wantPlay(t, "n=64;@n{"+all+"n=n-1;}", api.MaxFuel, api.Ended, "")
	wantPlay(t, "@1{n=n+63;n=n<64;n=n*63;n=n+1;"+all+"}", api.MaxFuel, api.Tired, "")
	for _, round := range []string{"A=[64];", "A=[64];B=A;", "A=[64];B=[64];A=B;", "A=[64];~A;", "A=[64];B=A;~B;"} {
		wantPlay(t, "@1{"+round+"}", api.MaxFuel, api.Tired, "")
	}
	// Each second block shrinks to one word and its room is left in pieces; then each of these is made whole again.
	small, whole := "", ""
	for i := 0; i < 26; i += 2 {
		small += string(rune('A'+i)) + "=[1];"
		whole += string(rune('A'+i)) + "=[64];"
	}
	wantPlay(t, "n=63;"+all+small+whole, 99, api.Ended, "")
}

// P8: which S is done, also deep within others.
func TestP8Braces(t *testing.T) {
	for _, o := range []string{"1", "01", "999", "b"} {
		wantPlay(t, "b=2;?"+o+"{!1;!2;}{!3;!4;}!5;", 99, api.Ended, "1;2;5;")
		wantPlay(t, "b=2;?"+o+"{}{!3;!4;}!5;", 99, api.Ended, "5;")
	}
	for _, o := range []string{"0", "00", "000", "b"} {
		wantPlay(t, "?"+o+"{!1;!2;}{!3;!4;}!5;", 99, api.Ended, "3;4;5;")
		wantPlay(t, "?"+o+"{!1;}{}!5;", 99, api.Ended, "5;")
		wantPlay(t, "@"+o+"{!1;}!5;", 99, api.Ended, "5;")
	}
	wantPlay(t, "a=3;@a{b=a;@b{?b{!b;}{!0;}b=b-1;}?b{!111;}{!222;}a=a-1;}!a;", 99, api.Ended, "3;2;1;222;2;1;222;1;222;0;")
	deep := "?a{!1;}{!2;}"
	for range api.MaxDeep - 1 {
		deep = "?a{" + deep + "}{!3;}"
	}
	wantPlay(t, "a=1;"+deep+"!4;", 99, api.Ended, "1;4;")
	wantPlay(t, deep+"!4;", 99, api.Ended, "3;4;")
	loops := "!a;"
	for i := range api.MaxDeep {
		v := string(rune('b' + i))
		loops = v + "=2;@" + v + "{" + loops + v + "=" + v + "-1;}"
	}
	wantPlay(t, loops, api.MaxFuel, api.Ended, strings.Repeat("0;", 256))
}

// P9: the errors, in their order, and both ends of each bound.
func TestP9Errors(t *testing.T) {
	long := strings.Repeat("a=1;", api.MaxLow/4)
	wrongWords := []int{math.MinInt, -1, 0, api.MaxWords + 1, math.MaxInt}
	wrongFuel := []int{math.MinInt, -1, api.MaxFuel + 1, math.MaxInt}
	for _, words := range append(wrongWords, 1, api.MaxWords) {
		for _, fuel := range append(wrongFuel, 0, api.MaxFuel) {
			wantExecError(t, long+"!", words, fuel, api.ErrLong)
			wantExecError(t, strings.Repeat("}", api.MaxLow+1), words, fuel, api.ErrLong)
			wantExecError(t, strings.Repeat("@1{", api.MaxLow), words, fuel, api.ErrLong)
			wantExecError(t, strings.Repeat("a", api.MaxLow), words, fuel, api.ErrSyntax)
			wantExecError(t, long[:api.MaxLow-1], words, fuel, api.ErrSyntax)
			wantExecError(t, "~A", words, fuel, api.ErrSyntax)
			wantExecError(t, "!1;}", words, fuel, api.ErrSyntax)
			wantExecError(t, long[:api.MaxLow-32]+strings.Repeat("@1{", 10), words, fuel, api.ErrDeep)
			wantExecError(t, strings.Repeat("@1{", 9)+"}", words, fuel, api.ErrDeep)
			wantExecError(t, " "+strings.Repeat("@1{", 9), words, fuel, api.ErrSyntax)
		}
	}
	for _, s := range []string{"", "!1;", "~A;", long} {
		for _, words := range wrongWords {
			wantExecError(t, s, words, 9, api.ErrArg)
			wantExecError(t, s, words, -1, api.ErrArg)
		}
		for _, fuel := range wrongFuel {
			wantExecError(t, s, 9, fuel, api.ErrArg)
		}
	}
	wantExec(t, "", 1, 0, api.Outcome{})
	wantExec(t, long, api.MaxWords, api.MaxFuel, api.Outcome{})
	wantExec(t, long, 1, api.MaxFuel-1, api.Outcome{Status: api.Tired})
	wantExec(t, long[:api.MaxLow-4]+"!12;", 1, api.MaxFuel, api.Outcome{Trace: "12;"})
}

// P9: what is Broken, and that it is so ahead of all else but the fuel.
func TestP9Broken(t *testing.T) {
	for i := range 26 {
		V, W := string(rune('A'+i)), string(rune('A'+(i+1)%26))
		for _, s := range []string{"a=" + V + "[0];", "a=" + V + "[999];", "a=#" + V + ";", V + "[0]=1;", V + "[999]=1;", V + "=" + V + ";", W + "=" + V + ";"} {
			wantExec(t, "!1;"+s+"!2;", 9, 9, api.Outcome{Status: api.Broken, Trace: "1;"})
			wantExec(t, "!1;"+s+"!2;", 9, 1, api.Outcome{Status: api.Tired, Trace: "1;"})
			wantExec(t, W+"=[2];"+s, 9, 9, api.Outcome{Status: api.Broken, Used: 2, Peak: 2})
			wantExec(t, V+"=[2];~"+V+";"+s, 9, 9, api.Outcome{Status: api.Broken, Peak: 2})
		}
		wantExec(t, "!1;~"+V+";!2;", 9, 9, api.Outcome{Status: api.Broken, Trace: "1;"})
		wantExec(t, "!1;~"+V+";!2;", 9, 1, api.Outcome{Status: api.Broken, Trace: "1;"})
		wantExec(t, "~"+V+";", 9, 0, api.Outcome{Status: api.Broken})
		for _, s := range []string{V + "=[1];", V + "=[0];", V + "=[65];", V + "=[8];", V + "=" + W + ";"} {
			wantExec(t, W+"=[1];"+V+"=[2];"+s, 4, 9, api.Outcome{Status: api.Broken, Used: 3, Peak: 3})
			wantExec(t, W+"=[1];"+V+"=[2];"+s, 4, 2, api.Outcome{Status: api.Tired, Used: 3, Peak: 3})
		}
		wantExec(t, V+"=[2];"+V+"="+V+";"+W+"="+V+";~"+W+";"+V+"=[1];", 9, 9, api.Outcome{Used: 1, Peak: 2})
		wantExec(t, V+"=[2];"+W+"="+V+";~"+V+";", 9, 9, api.Outcome{Status: api.Broken, Used: 2, Peak: 2})
	}
}

// P9: where blocks lie is seen in Peak and in what is Crowded; a size that traps is never Crowded.
func TestP9Heap(t *testing.T) {
	for _, c := range []struct {
		s     string
		words int
		want  api.Outcome
	}{
		{"A=[0];", 1, api.Outcome{Status: api.Trapped}},
		{"A=[65];", 1, api.Outcome{Status: api.Trapped}},
		{"A=[1];B=[0];", 1, api.Outcome{Status: api.Trapped, Used: 1, Peak: 1}},
		{"A=[1];B=[1];", 1, api.Outcome{Status: api.Crowded, Used: 1, Peak: 1}},
		{"A=[64];", 64, api.Outcome{Used: 64, Peak: 64}},
		{"A=[64];", 63, api.Outcome{Status: api.Crowded}},
		{"!4;A=[2];!5;", 1, api.Outcome{Status: api.Crowded, Trace: "4;"}},
		{"A=[2];B=[2];C=[2];~A;~C;D=[3];", 6, api.Outcome{Status: api.Crowded, Used: 2, Peak: 6}},
		{"A=[2];B=[2];C=[2];~A;~C;D=[3];", 7, api.Outcome{Used: 5, Peak: 7}},
		{"A=[2];B=[2];C=[2];~A;~B;D=[3];E=[1];", 6, api.Outcome{Used: 6, Peak: 6}},
		{"A=[2];B=[1];~A;C=[1];D=[1];", 3, api.Outcome{Used: 3, Peak: 3}},
		{"A=[4];~A;A=[1];", 9, api.Outcome{Used: 1, Peak: 4}},
		{"A=[4];B=[4];~B;~A;C=[2];", 9, api.Outcome{Used: 2, Peak: 8}},
		{"A=[2];A[0]=8;A[1]=9;~A;B=[1];a=B[0];!a;C=[1];a=C[0];!a;", 2, api.Outcome{Trace: "0;0;", Used: 2, Peak: 2}},
		{"A=[2];B=A;A=[1];A[0]=3;B[0]=4;B[1]=5;a=A[0];!a;a=B[0];!a;a=B[1];!a;a=#B;!a;", 3, api.Outcome{Trace: "3;4;5;2;", Used: 3, Peak: 3}},
		{"A=[2];B=[2];A[2]=1;", 4, api.Outcome{Status: api.Trapped, Used: 4, Peak: 4}},
		{"A=[2];B=[2];a=A[2];", 4, api.Outcome{Status: api.Trapped, Used: 4, Peak: 4}},
		{"A=[2];a=1/0;", 4, api.Outcome{Status: api.Trapped, Used: 2, Peak: 2}},
	} {
		wantExec(t, c.s, c.words, 99, c.want)
	}
	all, none := "", ""
	for i := range 26 {
		all += string(rune('A'+i)) + "=[n];"
		none += "~" + string(rune('A'+i)) + ";"
	}
	wantExec(t, "n=64;"+all, 26*64, 99, api.Outcome{Used: 26 * 64, Peak: 26 * 64})
	wantExec(t, "n=64;"+all, 26*64-1, 99, api.Outcome{Status: api.Crowded, Used: 25 * 64, Peak: 25 * 64})
	wantExec(t, "n=64;"+all+none+"!n;", api.MaxWords, 28, api.Outcome{Trace: "64;", Peak: 26 * 64})
	wantExec(t, "n=64;@n{"+all+none+"n=n-1;}!n;", 26*64, api.MaxFuel, api.Outcome{Trace: "0;", Peak: 26 * 64})
}

// P9: a text that Check refuses as ErrEmpty or ErrLong runs all the same; what it never comes to does no harm.
func TestP9RunsWhatCheckRefuses(t *testing.T) {
	wantExec(t, "?0{~A;}{!1;}@0{a=#B;}!2;", 1, 99, api.Outcome{Trace: "1;2;"})
	wantExec(t, "a=1;?a{A=[1];}{}b=#A;!b;~A;", 1, 99, api.Outcome{Trace: "1;", Peak: 1})
	wantExec(t, strings.Repeat("a=a+1;", 400)+"!a;", 1, 401, api.Outcome{Trace: "400;"})
	rounds := strings.Repeat("A=[3];B=A;~B;!7;", api.MaxLow/16)
	wantExec(t, rounds, 3, 3*(api.MaxLow/16), api.Outcome{Trace: strings.Repeat("7;", api.MaxLow/16), Peak: 3})
}

// P2: what a run does leaves nothing behind for another one.
func TestP2RunsAreApart(t *testing.T) {
	const s = "a=a+1;!a;B=[2];b=B[1];!b;B[1]=a;c=B[1];!c;"
	for range 3 {
		wantPlay(t, s, 9, api.Ended, "1;0;1;")
		wantExec(t, s, 2, 9, api.Outcome{Trace: "1;0;1;", Used: 2, Peak: 2})
		wantPlay(t, s, 3, api.Tired, "1;")
		wantPlayError(t, "!", 3, api.ErrSyntax)
		wantExec(t, "A=[1];"+s, 2, 9, api.Outcome{Status: api.Crowded, Trace: "1;", Used: 1, Peak: 1})
	}
}

// P1: texts of any bytes, with any numbers, are answered; with an error all else is zero.
func TestP1AllRuns(t *testing.T) {
	d := &draw{state: 11}
	numbers := []int{math.MinInt, -1, 0, 1, 2, 9, 4096, 4097, 5000, 5001, math.MaxInt}
	const bytes = "aA1=;[]{}?@~!#+/.\x00\xff"
	for range 50000 {
		s := ""
		for range d.below(14) {
			at := d.below(len(bytes))
			s += bytes[at : at+1]
		}
		fuel, words := numbers[d.below(len(numbers))], numbers[d.below(len(numbers))]
		x, e := steward.Play(s, fuel)
		want, _ := steward.Check(s)
		if want == api.OK && (fuel < 0 || fuel > 5000) {
			want = api.ErrArg
		}
		if e != want || e != api.OK && x != (api.Outcome{}) {
			t.Fatalf("Play(%q, %d): %+v, %d; want %d", s, fuel, x, e, want)
		}
		x, e = steward.Exec(s, words, fuel)
		if want == api.ErrEmpty {
			want = api.OK
		}
		if want == api.OK && (fuel < 0 || fuel > 5000 || words < 1 || words > 4096) {
			want = api.ErrArg
		}
		if e != want || e != api.OK && x != (api.Outcome{}) {
			t.Fatalf("Exec(%q, %d, %d): %+v, %d; want %d", s, words, fuel, x, e, want)
		}
	}
}
