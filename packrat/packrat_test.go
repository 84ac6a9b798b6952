package packrat

import (
	"fmt"
	"strconv"
	"strings"
	"sync"
	"testing"

	"muntin/api"
	"muntin/code"
	"muntin/ford"
	"muntin/printer"
	"muntin/syntax"
)

// sums is the grammar of the chapter's examples.
const sums = "s <- e !. e <- t ('+' t)* t <- [0-9]+ / '(' e ')'"

func ref(s string) api.Node                    { return api.Node{Kind: api.Ref, Text: s} }
func lit(s string) api.Node                    { return api.Node{Kind: api.Lit, Text: s} }
func bare(kind int) api.Node                   { return api.Node{Kind: kind} }
func over(kind int, subs ...api.Node) api.Node { return api.Node{Kind: kind, Subs: subs} }
func ruled(rules ...api.Rule) api.Grammar      { return api.Grammar{Rules: rules} }

// name is one of a rule, for each place another one.
func name(place int) string { return "r" + strconv.Itoa(place) }

// program is that of a grammar.
func program(t testing.TB, g api.Grammar) api.Program {
	t.Helper()
	p, err := code.Make(g)
	if err != nil {
		t.Fatal(g, err)
	}
	return p
}

// made is the program of a source.
func made(t testing.TB, s string) api.Program {
	t.Helper()
	g, err := syntax.Parse(s)
	if err != nil {
		t.Fatal(s, err)
	}
	return program(t, g)
}

// shown is the text of a program's grammar, as much of it as is worth telling; of what is none, its numbers.
func shown(p api.Program) string {
	text := fmt.Sprint(p)
	if g, err := code.Grammar(p); err == nil {
		text, _ = printer.Print(g)
	}
	return text[:min(len(text), 200)]
}

// ends holds Match to a place and to so many notes, whatever more there may be, and to ErrBudget with one fewer.
func ends(t *testing.T, p api.Program, rule int, text string, at, want, notes int) {
	t.Helper()
	for _, most := range []int{notes, notes + 1, 2*notes + 7, api.MaxSteps} {
		end, count, err := Match(p, rule, text, at, min(most, api.MaxSteps))
		if end != want || count != notes || err != nil {
			t.Errorf("%s: %d of %.40q at %d with %d: %d %d %v, not %d %d", shown(p), rule, text, at, most, end, count, err, want, notes)
		}
	}
	isRefused(t, p, rule, text, at, notes-1, api.ErrBudget)
}

// isRefused holds Match to an error with nothing beside it, and Accepts, if that asks for the same.
func isRefused(t *testing.T, p api.Program, rule int, text string, at, most int, code api.Errno) {
	t.Helper()
	end, count, err := Match(p, rule, text, at, most)
	if end != 0 || count != 0 || api.Code(err) != code {
		t.Errorf("%s: %d of %.40q at %d with %d: %d %d %v, not %v", shown(p), rule, text, at, most, end, count, err, code)
	}
	if rule != 0 || at != 0 {
		return
	}
	is, count, err := Accepts(p, text, most)
	if is || count != 0 || api.Code(err) != code {
		t.Errorf("%s: %.40q with %d: %v %d %v, not %v", shown(p), text, most, is, count, err, code)
	}
}

// accepts holds Accepts to an answer and to so many notes, and to ErrBudget with one fewer.
func accepts(t *testing.T, p api.Program, text string, want bool, notes int) {
	t.Helper()
	for _, most := range []int{notes, notes + 1, api.MaxSteps} {
		if is, count, err := Accepts(p, text, min(most, api.MaxSteps)); is != want || count != notes || err != nil {
			t.Errorf("%s: %.40q with %d: %v %d %v, not %v %d", shown(p), text, most, is, count, err, want, notes)
		}
	}
	isRefused(t, p, 0, text, 0, notes-1, api.ErrBudget)
}

// P12.1, P12.2
func TestExamplesOfTheChapter(t *testing.T) {
	p := made(t, sums)
	for text, want := range map[string]bool{"1+(2+3)": true, "1+": false} {
		if is, _, err := Accepts(p, text, api.MaxSteps); is != want || err != nil {
			t.Error(text, is, err)
		}
	}
	ends(t, made(t, "a <- 'x' a / 'y'"), 0, "xxy", 0, 3, 12)
}

// P12.1: each kind, with operations that stand once: where it ends, and the notes.
func TestKinds(t *testing.T) {
	for _, x := range []struct {
		body, text     string
		at, end, notes int
	}{
		{"()", "", 0, 0, 1}, {"()", "xy", 0, 0, 1}, {"()", "xy", 1, 1, 1}, {"()", "xy", 2, 2, 1},
		{"''", "", 0, 0, 1}, {"''", "x", 0, 0, 1}, {"''", "x", 1, 1, 1},
		{"'x'", "x", 0, 1, 1}, {"'x'", "", 0, -1, 1}, {"'x'", "y", 0, -1, 1}, {"'x'", "yx", 0, -1, 1}, {"'x'", "yx", 1, 2, 1}, {"'x'", "yx", 2, -1, 1}, {"'x'", "xx", 0, 1, 1},
		{"'xyz'", "xyz", 0, 3, 1}, {"'xyz'", "xy", 0, -1, 1}, {"'xyz'", "xyxyz", 2, 5, 1}, {"'xyz'", "xxyz", 0, -1, 1}, {"'xyz'", "xyy", 0, -1, 1}, {"'xyz'", "xyz", 1, -1, 1}, {"'xyz'", "xyz", 3, -1, 1},
		{"[x-z]", "y", 0, 1, 1}, {"[x-z]", "w", 0, -1, 1}, {"[x-z]", "", 0, -1, 1}, {"[x-z]", "wz", 1, 2, 1}, {"[x-z]", "xx", 2, -1, 1}, {"[^x-z]", "w", 0, 1, 1}, {"[^x-z]", "", 0, -1, 1},
		{"[]", "x", 0, -1, 1}, {"[]", "", 0, -1, 1}, {"[^]", "x", 0, 1, 1}, {"[^]", "", 0, -1, 1},
		{".", "x", 0, 1, 1}, {".", "", 0, -1, 1}, {".", "xy", 1, 2, 1}, {".", "xy", 2, -1, 1},
		{"'x' 'y'", "xy", 0, 2, 3}, {"'x' 'y'", "xx", 0, -1, 3}, {"'x' 'y'", "x", 0, -1, 3}, {"'x' 'y'", "yx", 0, -1, 2}, {"'x' 'y'", "yxy", 1, 3, 3},
		{"'x' 'y' 'z'", "xyz", 0, 3, 4}, {"'x' 'y' 'z'", "xz", 0, -1, 3}, {"'x' 'y' 'z'", "z", 0, -1, 2}, {"'x' 'y' 'z'", "xyx", 0, -1, 4},
		{"() ''", "", 0, 0, 3}, {"'' [] 'x'", "x", 0, -1, 3}, {"'x' ('y' 'z')", "xyz", 0, 3, 5},
		{"'x' / 'y'", "x", 0, 1, 2}, {"'x' / 'y'", "y", 0, 1, 3}, {"'x' / 'y'", "z", 0, -1, 3}, {"'x' / 'y'", "", 0, -1, 3}, {"'x' / 'y'", "zy", 1, 2, 3},
		{"'x' / 'xy'", "xy", 0, 1, 2}, {"'xy' / 'x'", "xy", 0, 2, 2}, {"'xy' / 'x'", "xx", 0, 1, 3}, {"() / 'x'", "x", 0, 0, 2}, {"'x' / ()", "y", 0, 0, 3}, {"'x' / 'y' / 'z'", "z", 0, 1, 4},
		{"('x' / 'xy') 'z'", "xyz", 0, -1, 4}, {"'x' 'y' / 'z'", "x", 0, -1, 5}, {"'x' 'y' / ''", "zx", 1, 1, 5},
		{"'x'?", "x", 0, 1, 2}, {"'x'?", "", 0, 0, 2}, {"'x'?", "y", 0, 0, 2}, {"'x'?", "yx", 1, 2, 2}, {"'x'?", "xx", 0, 1, 2}, {"()?", "x", 0, 0, 2}, {"('x'?)?", "y", 0, 0, 3}, {"'x'? 'x'", "x", 0, -1, 4}, {"('x' 'y')?", "xx", 0, 0, 4},
		{"'x'*", "", 0, 0, 2}, {"'x'*", "x", 0, 1, 3}, {"'x'*", "xxx", 0, 3, 5}, {"'x'*", "xxy", 1, 2, 3}, {"'x'*", "yx", 0, 0, 2}, {"('x' 'y')*", "xyx", 0, 2, 7}, {"('x' / 'y')*", "yx", 0, 2, 9}, {"[]*", "x", 0, 0, 2}, {".*", "xyz", 0, 3, 5},
		{"'x'+", "", 0, -1, 2}, {"'x'+", "y", 0, -1, 2}, {"'x'+", "x", 0, 1, 3}, {"'x'+", "xxx", 0, 3, 5}, {"'x'+", "yxxy", 1, 3, 4}, {"'x'+", "xy", 1, -1, 2}, {"('x' 'y')+", "xyx", 0, 2, 7}, {"('x' 'y')+", "xx", 0, -1, 4}, {"('x'+)?", "", 0, 0, 3}, {"[]+", "x", 0, -1, 2},
		{"&'x'", "x", 0, 0, 2}, {"&'x'", "y", 0, -1, 2}, {"&'x'", "", 0, -1, 2}, {"&'x'", "yx", 1, 1, 2}, {"&'xy' 'x'", "xy", 0, 1, 4}, {"&()", "", 0, 0, 2}, {"&'x'*", "xx", 0, 0, 5}, {"&(&'x')", "x", 0, 0, 3},
		{"!'x'", "x", 0, -1, 2}, {"!'x'", "y", 0, 0, 2}, {"!'x'", "", 0, 0, 2}, {"!'x'", "yx", 0, 0, 2}, {"!'x'", "yx", 1, -1, 2}, {"!(!'x')", "x", 0, 0, 3}, {"!(!'x')", "y", 0, -1, 3}, {"!.", "", 0, 0, 2}, {"!.", "x", 0, -1, 2}, {"!.", "x", 1, 1, 2}, {"!'x' .", "y", 0, 1, 4}, {"!'x' .", "x", 0, -1, 3}, {"!()", "x", 0, -1, 2}, {"(!'x' .)*", "yyx", 0, 2, 12},
	} {
		ends(t, made(t, "a <- "+x.body), 0, x.text, x.at, x.end, x.notes)
	}
}

// P12.1: what is matched again where it was matched is no other note, succeed or fail; at another place it is.
func TestNotesAreMadeOnce(t *testing.T) {
	for _, x := range []struct {
		body, text     string
		at, end, notes int
	}{
		{"() ()", "", 0, 0, 2}, {"'' '' ''", "x", 1, 1, 2}, {"'x' 'x'", "xx", 0, 2, 3}, {"'x' 'x'", "x", 0, -1, 3},
		{"'x' / 'x'", "x", 0, 1, 2}, {"'x' / 'x'", "y", 0, -1, 2}, {". / . / .", "", 0, -1, 2},
		{"'x' 'y' / 'x' 'z'", "xz", 0, 2, 6}, {"'x' 'y' / 'x' 'z'", "y", 0, -1, 4}, {"'x' 'y' / 'x' 'y'", "xx", 0, -1, 4}, {"'x' 'y' 'z' / 'x' 'y'", "xy", 0, 2, 6},
		{"'x'? 'x'", "", 0, -1, 3}, {"'x'? 'x'", "xx", 0, 2, 4}, {"'x'? 'x'?", "x", 0, 1, 5}, {"'x'? 'x'?", "y", 0, 0, 3},
		{"'x'* 'x'", "xx", 0, -1, 5}, {"'x'* 'x'*", "x", 0, 1, 5}, {"'x'* 'x'*", "", 0, 0, 3}, {"'x'* 'x'+", "xx", 0, -1, 6}, {"'x'+ 'x'", "xx", 0, -1, 5}, {"'x'+ 'x'*", "xx", 0, 2, 6}, {"'x'+ / 'x'*", "", 0, 0, 4}, {"('x'+)+", "xx", 0, 2, 6},
		{"&'x' 'x'", "x", 0, 1, 3}, {"!'x' 'x'", "y", 0, -1, 3}, {"!'x' / 'x'", "x", 0, 1, 3}, {"&('x' 'y') 'x'", "xy", 0, 1, 5}, {"&('x' 'y') 'x'", "xx", 0, -1, 5}, {"&'x'* 'x'* !'x'", "xxx", 0, 3, 8},
		{"('x' / 'y') ('x' / 'y')", "yy", 0, 2, 7}, {"('x' / 'y')* 'x'? 'y'?", "yx", 0, 2, 12},
	} {
		ends(t, made(t, "a <- "+x.body), 0, x.text, x.at, x.end, x.notes)
	}
}

// P12.1: a Ref and the root of its rule are two operations; the rule that is matched is its root alone.
func TestRefs(t *testing.T) {
	for _, x := range []struct {
		source         string
		rule           int
		text           string
		at, end, notes int
	}{
		{"a <- b b <- 'x'", 0, "x", 0, 1, 2},
		{"a <- b b <- 'x'", 1, "x", 0, 1, 1},
		{"a <- b b <- 'x'", 0, "y", 0, -1, 2},
		{"b <- 'x' a <- b", 1, "yx", 1, 2, 2},
		{"a <- b b <- c c <- 'x'", 0, "x", 0, 1, 3},
		{"a <- b b b <- ''", 0, "", 0, 0, 3},
		{"a <- b / b / 'x' b <- 'x' 'y'", 0, "xz", 0, 1, 5},
		{"a <- b 'y' / c b <- 'x' c <- 'x'", 0, "xx", 0, 1, 6},
		{"a <- b c b <- c c <- 'x'", 0, "xx", 0, 2, 6},
		{"a <- 'x' a / 'y'", 0, "xxz", 0, -1, 14},
		{"a <- 'x' a / 'y'", 0, "xxy", 1, 3, 8},
		{"a <- 'x' a / 'y'", 0, "xxy", 3, -1, 4},
		{"a <- '(' a ')' / ()", 0, "(())", 0, 4, 14},
		{"a <- '(' a ')' / ()", 0, "(()", 0, 0, 15},
		{"a <- 'x' b / 'z' b <- 'y' a", 1, "yxyz", 0, 4, 14},
		{"a <- &b . b <- 'xy'", 0, "xy", 0, 1, 5},
		{"a <- b* !b b <- 'x'", 0, "xx", 0, 2, 9},
		{"a <- b+ b <- 'x'", 0, "xx", 0, 2, 7},
		{"a <- b? b <- 'x'", 0, "", 0, 0, 3},
		{sums, 0, "1", 0, 1, 13},
		{sums, 0, "", 0, -1, 9},
		{sums, 1, "12+x", 0, 2, 16},
		{sums, 2, "(7)", 0, 3, 16},
		{sums, 2, "7)", 2, -1, 5},
	} {
		ends(t, made(t, x.source), x.rule, x.text, x.at, x.end, x.notes)
	}
}

// P12.1: texts are bytes, whatever they are.
func TestBytes(t *testing.T) {
	for b := range 256 {
		text, other := string([]byte{byte(b)}), string([]byte{byte(b + 1)})
		var c api.Class
		c[b/64] = 1 << (b % 64)
		for i, n := range []api.Node{lit(text), {Kind: api.Set, Class: c}, bare(api.Any)} {
			p := program(t, ruled(api.Rule{Name: "a", Body: over(api.Plus, n)}))
			ends(t, p, 0, text+text, 0, 2, 4)
			ends(t, p, 0, other+text, 1, 2, 3)
			if i < 2 {
				ends(t, p, 0, text+other, 0, 1, 3)
				ends(t, p, 0, other, 0, -1, 2)
			}
		}
	}
	ends(t, made(t, "a <- . . ."), 0, "\u20ac", 0, 3, 4)
	ends(t, made(t, "a <- .*"), 0, "\x00\xff\xc3", 0, 3, 5)
}

// P12.1: bytes behind a literal are not looked at, nor any beyond the end.
func TestLongestLiteral(t *testing.T) {
	long := strings.Repeat("x", api.MaxLit)
	p := program(t, ruled(api.Rule{Name: "a", Body: lit(long)}))
	ends(t, p, 0, long, 0, api.MaxLit, 1)
	ends(t, p, 0, long+"x", 1, api.MaxLit+1, 1)
	ends(t, p, 0, long+"y", 0, api.MaxLit, 1)
	ends(t, p, 0, long, 1, -1, 1)
	ends(t, p, 0, long[1:]+"y", 0, -1, 1)
}

// P12.2: a success is not enough: it must end at the text's end.
func TestAccepts(t *testing.T) {
	p := made(t, "a <- 'x'* b <- 'y'")
	accepts(t, p, "", true, 2)
	accepts(t, p, "xx", true, 4)
	accepts(t, p, "xxy", false, 4)
	accepts(t, p, "y", false, 2)
	accepts(t, made(t, "a <- 'x' b <- 'y'"), "y", false, 1)
	accepts(t, made(t, "a <- 'x' / 'xy'"), "xy", false, 2)
	accepts(t, made(t, "a <- 'xy' / 'x'"), "xy", true, 2)
	accepts(t, made(t, "a <- &'x'"), "x", false, 2)
	accepts(t, made(t, "a <- []"), "", false, 1)
	accepts(t, made(t, "a <- ()"), "", true, 1)
	accepts(t, made(t, "a <- !'x' b / 'xz' b <- ."), "y", true, 6)
	accepts(t, made(t, "a <- !b / b b <- 'x'"), "x", true, 4)
	accepts(t, made(t, sums), "1", true, 13)
	accepts(t, made(t, sums), "", false, 9)
}

// P12.1, P12.2: a language that no grammar without looks ahead has: as many x as y as z.
func TestLooksAhead(t *testing.T) {
	p := made(t, "s <- &(a 'z') 'x'+ b !. a <- 'x' a? 'y' b <- 'y' b? 'z'")
	for x := range 5 {
		for y := range 5 {
			for z := range 5 {
				text := strings.Repeat("x", x) + strings.Repeat("y", y) + strings.Repeat("z", z)
				if is, _, err := Accepts(p, text, api.MaxSteps); is != (x > 0 && x == y && y == z) || err != nil {
					t.Error(text, is, err)
				}
			}
		}
	}
}

// noPrograms are some.
func noPrograms(t *testing.T) []api.Program {
	t.Helper()
	names, star := []string{"a"}, api.Op{Kind: api.Star, Subs: []int{0}}
	dot, empty := api.Op{Kind: api.Any}, api.Op{Kind: api.Empty}
	left, unused := made(t, "a <- b / 'x' b <- 'y'"), made(t, "a <- 'x'")
	left.Ops[0].Subs[0] = 0
	unused.Ops = append(unused.Ops, dot)
	return []api.Program{
		{},
		{Names: names, Roots: []int{0}},
		{Ops: []api.Op{dot}, Names: names},
		{Ops: []api.Op{dot}, Roots: []int{0}},
		{Ops: []api.Op{dot}, Names: names, Roots: []int{1}},
		{Ops: []api.Op{dot}, Names: names, Roots: []int{-1}},
		{Ops: []api.Op{dot}, Names: names, Roots: []int{api.MinInt}},
		{Ops: []api.Op{dot}, Names: names, Roots: []int{api.MaxInt}},
		{Ops: []api.Op{dot}, Names: []string{""}, Roots: []int{0}},
		{Ops: []api.Op{dot}, Names: []string{"a", "a"}, Roots: []int{0, 0}},
		{Ops: []api.Op{dot}, Names: names, Roots: []int{0, 0}},
		{Ops: []api.Op{dot, dot}, Names: names, Roots: []int{0}},
		{Ops: []api.Op{{}}, Names: names, Roots: []int{0}},
		{Ops: []api.Op{{Kind: 13}}, Names: names, Roots: []int{0}},
		{Ops: []api.Op{{Kind: api.Any, Text: "x"}}, Names: names, Roots: []int{0}},
		{Ops: []api.Op{{Kind: api.Empty, Text: "x"}}, Names: names, Roots: []int{0}},
		{Ops: []api.Op{{Kind: api.Lit, Text: "x", Subs: []int{0}}}, Names: names, Roots: []int{0}},
		{Ops: []api.Op{star}, Names: names, Roots: []int{0}},
		{Ops: []api.Op{star, dot}, Names: names, Roots: []int{0}},
		{Ops: []api.Op{empty, star}, Names: names, Roots: []int{1}},
		{Ops: []api.Op{dot, {Kind: api.Star}}, Names: names, Roots: []int{1}},
		{Ops: []api.Op{dot, {Kind: api.Seq, Subs: []int{0}}}, Names: names, Roots: []int{1}},
		{Ops: []api.Op{dot, {Kind: api.Not, Subs: []int{0, 0}}}, Names: names, Roots: []int{1}},
		{Ops: []api.Op{dot, {Kind: api.Alt, Subs: []int{0, 2}}}, Names: names, Roots: []int{1}},
		{Ops: []api.Op{dot, {Kind: api.Alt, Subs: []int{0, -1}}}, Names: names, Roots: []int{1}},
		{Ops: []api.Op{{Kind: api.Ref, Subs: []int{0}}}, Names: names, Roots: []int{0}},
		{Ops: []api.Op{{Kind: api.Ref, Subs: []int{1}}}, Names: names, Roots: []int{0}},
		{Ops: []api.Op{{Kind: api.Ref}}, Names: names, Roots: []int{0}},
		{Ops: []api.Op{{Kind: api.Ref, Text: "a"}}, Names: names, Roots: []int{0}},
		left,
		unused,
	}
}

// P12.1, P12.2: what is no program is told ahead of all else.
func TestNoPrograms(t *testing.T) {
	for _, p := range noPrograms(t) {
		if _, err := code.Grammar(p); err == nil {
			t.Fatal(p, "is a program")
		}
		for _, most := range []int{0, 9, api.MaxSteps, -1, api.MaxSteps + 1} {
			for _, text := range []string{"", "xy", strings.Repeat("x", api.MaxText+1)} {
				isRefused(t, p, 0, text, 0, most, api.ErrProgram)
				isRefused(t, p, -1, text, 0, most, api.ErrProgram)
				isRefused(t, p, 0, text, len(text)+1, most, api.ErrProgram)
			}
		}
	}
}

// P12.1, P12.2: arguments that may not be, ahead of a text that is too long, that ahead of the notes.
func TestArguments(t *testing.T) {
	p := made(t, "a <- .* b <- 'x' c <- ()")
	full := strings.Repeat("x", api.MaxText)
	for _, text := range []string{"", "xy", full, full + "x"} {
		for _, most := range []int{0, 9, api.MaxSteps} {
			for _, rule := range []int{-1, 3, 4, 64, api.MinInt, api.MaxInt} {
				isRefused(t, p, rule, text, 0, most, api.ErrArg)
			}
			for _, at := range []int{-1, len(text) + 1, api.MinInt, api.MaxInt} {
				isRefused(t, p, 0, text, at, most, api.ErrArg)
				isRefused(t, p, 2, text, at, most, api.ErrArg)
			}
		}
		for _, most := range []int{-1, api.MaxSteps + 1, api.MinInt, api.MaxInt} {
			isRefused(t, p, 0, text, 0, most, api.ErrArg)
			isRefused(t, p, 2, text, len(text), most, api.ErrArg)
			isRefused(t, p, 3, text, 0, most, api.ErrArg)
		}
	}
	for _, most := range []int{0, 1, api.MaxSteps} {
		for _, at := range []int{0, 1, api.MaxText, api.MaxText + 1} {
			isRefused(t, p, 0, full+"x", at, most, api.ErrLong)
			isRefused(t, p, 2, full+"x", at, most, api.ErrLong)
		}
		isRefused(t, p, 0, full+full, 2*api.MaxText, most, api.ErrLong)
	}
	ends(t, p, 0, full, 0, api.MaxText, api.MaxText+2)
	ends(t, p, 0, full, api.MaxText, api.MaxText, 2)
	ends(t, p, 1, full, api.MaxText-1, api.MaxText, 1)
	ends(t, p, 2, full, api.MaxText, api.MaxText, 1)
	accepts(t, p, full, true, api.MaxText+2)
	isRefused(t, p, 0, "", 0, 0, api.ErrBudget)
}

// P12.1, P12.6: each number of notes, from none on.
func TestEachBudget(t *testing.T) {
	p := made(t, sums)
	const text = "(1+2)+34"
	_, notes, err := Accepts(p, text, api.MaxSteps)
	if err != nil || notes < 20 {
		t.Fatal(notes, err)
	}
	for most := range notes {
		isRefused(t, p, 0, text, 0, most, api.ErrBudget)
	}
	for most := notes; most < notes+50; most++ {
		if is, count, err := Accepts(p, text, most); !is || count != notes || err != nil {
			t.Error(most, is, count, err)
		}
	}
}

// full is a program of as many operations as may be: a choice of literals that stand nowhere, and of a byte with all of that again.
func full(t *testing.T) api.Program {
	t.Helper()
	body := over(api.Alt)
	for i := range api.MaxOps - 4 {
		body.Subs = append(body.Subs, lit(strconv.Itoa(i)))
	}
	body.Subs = append(body.Subs, over(api.Seq, bare(api.Any), ref("a")))
	p := program(t, ruled(api.Rule{Name: "a", Body: body}))
	if len(p.Ops) != api.MaxOps {
		t.Fatal(len(p.Ops))
	}
	return p
}

// P12.1, P12.5, P12.6: all operations at all places of the longest text, but the Ref at the first one: as many notes as there can be.
func TestMostNotes(t *testing.T) {
	ends(t, full(t), 0, strings.Repeat("x", api.MaxText), 0, -1, api.MaxOps*(api.MaxText+1)-1)
	ends(t, full(t), 0, strings.Repeat("x", api.MaxText), 1, -1, api.MaxOps*api.MaxText-1)
	ends(t, full(t), 0, "", 0, -1, api.MaxOps-1)
	// As many as operations times places, which is one here.
	ends(t, made(t, "a <- !([] / .)"), 0, "", 0, 0, 4)
}

// P12.4, P12.5: what takes more steps than may be, by the definition, makes few notes.
func TestWhatTheDefinitionTakesTooLongFor(t *testing.T) {
	g := ruled(api.Rule{Name: name(0), Body: over(api.Seq, lit(""), lit(""))})
	for i := 1; i < api.MaxRules; i++ {
		g.Rules = append(g.Rules, api.Rule{Name: name(i), Body: over(api.Seq, ref(name(i-1)), ref(name(i-1)))})
	}
	if _, _, err := ford.Match(g, api.MaxRules-1, "", 0, api.MaxSteps); err != api.ErrBudget {
		t.Fatal(err)
	}
	// A Seq a rule, a Ref of each but the last one, and the literal.
	ends(t, program(t, g), api.MaxRules-1, "x", 0, 0, 2*api.MaxRules)
	// The choice, its rows and the x at each place; the Ref at each but the first one; where that succeeded, an x farther on, y and z.
	ends(t, made(t, "a <- 'x' a 'y' / 'x' a 'z' / 'x'"), 0, strings.Repeat("x", 40), 0, 1, 4*41+40+2*39)
}

// chained is a program of so many rules, each of which is a Ref of the next one in so many expressions, told as a text with `_` for
// what stands within; and of a last one: an x and all of that again, or a y.
func chained(t *testing.T, count int, around string, deep int) api.Program {
	t.Helper()
	var source strings.Builder
	for i := range count {
		body := name(i + 1)
		for range deep {
			body = strings.Replace(around, "_", body, 1)
		}
		source.WriteString(name(i) + "<-" + body + "\n")
	}
	source.WriteString(name(count) + "<-'x'r0/'y'")
	return made(t, source.String())
}

// P12.1, P12.5, with W1: as many operations as may be wait for each other at each place of the longest text.
func TestDeepMatches(t *testing.T) {
	long := strings.Repeat("x", api.MaxText-1)
	for _, x := range []struct {
		around      string
		count, deep int
		isLook      bool // so that only the first x is taken
	}{
		{"(_)?", 8, 22, false}, {"&(_)", 8, 22, true}, {"!(_)", 8, 22, true}, {"(_)+", 8, 22, false}, {"_", 63, 1, false},
	} {
		p := chained(t, x.count, x.around, x.deep)
		// Once through all rules, to the last one's choice, row, 'x' and Ref, or choice, row, 'x' and 'y'.
		within := len(p.Ops) - 5
		want, notes := api.MaxText, (within+4)*api.MaxText-within
		if x.around == "(_)+" {
			// At the end all is tried once more, but for the outermost repetition of all.
			notes += within + 4 - 1
		}
		if x.isLook {
			want = 1
		}
		end, count, err := Match(p, x.count, long+"y", 0, api.MaxSteps)
		if end != want || count != notes || err != nil {
			t.Error(x.around, end, count, err, "not", want, notes)
		}
		isRefused(t, p, x.count, long+"y", 0, notes-1, api.ErrBudget)
	}
}

// roomy is a program whose lists have spare room, with something in it.
func roomy() api.Program {
	subs := append(make([]int, 0, 5), 1, 2)
	_ = append(subs, 7, -1)
	ops := append(make([]api.Op, 0, 6), api.Op{Kind: api.Lit, Text: "x"}, api.Op{Kind: api.Star, Subs: []int{0}}, api.Op{Kind: api.Ref, Subs: []int{1}}, api.Op{Kind: api.Seq, Subs: subs}, api.Op{Kind: api.Lit, Text: "y"})
	_ = append(ops, api.Op{Kind: 99, Text: "z"})
	names := append(make([]string, 0, 4), "a", "b")
	_ = append(names, "c")
	roots := append(make([]int, 0, 4), 3, 4)
	_ = append(roots, 9, 8)
	return api.Program{Ops: ops, Names: names, Roots: roots}
}

// whole tells all of a program, the spare room of its lists too.
func whole(p api.Program) string {
	out := fmt.Sprintf("%q %d %d %d %d", p.Names[:cap(p.Names)], p.Roots[:cap(p.Roots)], len(p.Ops), len(p.Names), len(p.Roots))
	for _, op := range p.Ops[:cap(p.Ops)] {
		out += fmt.Sprintf(" %d %q %d %d %d", op.Kind, op.Text, op.Class, op.Subs[:cap(op.Subs)], len(op.Subs))
	}
	return out
}

// P12.3: what is handed in, its spare room too, is as it was, whatever is answered.
func TestNothingIsChanged(t *testing.T) {
	p := roomy()
	was := whole(p)
	for _, text := range []string{"xxy", "xx", "", strings.Repeat("x", api.MaxText+1)} {
		for _, most := range []int{-1, 0, 3, 6, 100} {
			Match(p, 0, text, 0, most)
			Match(p, 1, text, len(text), most)
			Accepts(p, text, most)
			if whole(p) != was {
				t.Fatal(text, most, whole(p), "not", was)
			}
		}
	}
	accepts(t, p, "xxy", true, 7)
	p.Roots[0] = 4
	was = whole(p)
	isRefused(t, p, 0, "xxy", 0, 9, api.ErrProgram)
	if whole(p) != was {
		t.Error(whole(p), "not", was)
	}
}

// P12.3: nothing is kept: a program that was changed is matched as it is now, and one that was not as ever.
func TestNothingIsKept(t *testing.T) {
	p, same := roomy(), roomy()
	accepts(t, p, "xxy", true, 7)
	isRefused(t, p, 0, "xxy", 0, 6, api.ErrBudget)
	p.Ops[0].Text, p.Ops[4].Text = "xx", "z"
	accepts(t, p, "xxy", false, 6)
	accepts(t, p, "xxz", true, 6)
	accepts(t, same, "xxy", true, 7)
	p.Ops[1].Kind = api.Opt
	accepts(t, p, "xxz", true, 5)
	p.Ops[0].Text = ""
	accepts(t, p, "z", true, 5)
	p.Ops[1].Kind = api.Star
	isRefused(t, p, 0, "z", 0, 9, api.ErrProgram)
	accepts(t, same, "xxy", true, 7)
}

// P12.1, P12.2, with W5: lists that are empty are as good as none.
func TestEmptyLists(t *testing.T) {
	p := api.Program{Ops: []api.Op{{Kind: api.Lit, Text: "x", Subs: []int{}}, {Kind: api.Opt, Subs: []int{0}}}, Names: []string{"a"}, Roots: []int{1}}
	accepts(t, p, "x", true, 2)
	accepts(t, p, "", true, 2)
	isRefused(t, api.Program{Ops: []api.Op{}, Names: []string{}, Roots: []int{}}, 0, "", 0, 9, api.ErrProgram)
}

// P12.1, P12.2, with W2: calls at one time, of one program, know nothing of each other.
func TestCallsAtOneTime(t *testing.T) {
	p := made(t, sums)
	var group sync.WaitGroup
	for i := range 16 {
		text := strings.Repeat("(", i) + "1" + strings.Repeat(")", i)
		group.Go(func() {
			for range 20 {
				// Each pair of parentheses makes a choice, a Plus, a Set, a row and both signs, two Refs, a row, and a Star that fails.
				if is, notes, err := Accepts(p, text, 13+12*i); !is || notes != 13+12*i || err != nil {
					t.Error(text, is, notes, err)
				}
				if is, notes, err := Accepts(p, text, 12+12*i); is || notes != 0 || err != api.ErrBudget {
					t.Error(text, is, notes, err)
				}
			}
		})
	}
	group.Wait()
}
