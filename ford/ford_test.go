package ford

import (
	"slices"
	"strconv"
	"strings"
	"sync"
	"testing"

	"muntin/api"
	"muntin/first"
	"muntin/nullable"
	"muntin/printer"
	"muntin/sound"
	"muntin/syntax"
)

// sums is the grammar of the chapter's examples.
const sums = "s <- e !. e <- t ('+' t)* t <- [0-9]+ / '(' e ')'"

func ref(s string) api.Node                    { return api.Node{Kind: api.Ref, Text: s} }
func lit(s string) api.Node                    { return api.Node{Kind: api.Lit, Text: s} }
func bare(kind int) api.Node                   { return api.Node{Kind: kind} }
func over(kind int, subs ...api.Node) api.Node { return api.Node{Kind: kind, Subs: subs} }
func ruled(rules ...api.Rule) api.Grammar      { return api.Grammar{Rules: rules} }

// name is one of a rule, for each place another one.
func name(place int) string { return "r" + strconv.Itoa(place) }

// within is a node in so many others of a kind, each with it as its only part.
func within(deep, kind int, n api.Node) api.Node {
	for range deep {
		n = over(kind, n)
	}
	return n
}

// parsed is the tree of a source.
func parsed(t testing.TB, s string) api.Grammar {
	t.Helper()
	g, err := syntax.Parse(s)
	if err != nil {
		t.Fatal(s, err)
	}
	return g
}

// shown is a grammar's text, as much of it as is worth telling.
func shown(g api.Grammar) string {
	text, _ := printer.Print(g)
	return text[:min(len(text), 200)]
}

// ends holds Match to a place and to so many steps, whatever more may be taken, and to ErrBudget with one fewer.
func ends(t *testing.T, g api.Grammar, rule int, text string, at, want, steps int) {
	t.Helper()
	for _, most := range []int{steps, min(steps+1, api.MaxSteps), min(2*steps+7, api.MaxSteps), api.MaxSteps} {
		end, took, err := Match(g, rule, text, at, most)
		if end != want || took != steps || err != nil {
			t.Errorf("%s: %d of %.40q at %d with %d: %d %d %v, not %d %d", shown(g), rule, text, at, most, end, took, err, want, steps)
		}
	}
	isRefused(t, g, rule, text, at, steps-1, api.ErrBudget, -1)
}

// isRefused holds Match to an error with nothing beside it, and Accepts, if that asks for the same.
func isRefused(t *testing.T, g api.Grammar, rule int, text string, at, most int, code api.Errno, place int) {
	t.Helper()
	end, took, err := Match(g, rule, text, at, most)
	if end != 0 || took != 0 || api.Code(err) != code || api.At(err) != place {
		t.Errorf("%s: %d of %.40q at %d with %d: %d %d %v, not %v at %d", shown(g), rule, text, at, most, end, took, err, code, place)
	}
	if rule != 0 || at != 0 {
		return
	}
	is, took, err := Accepts(g, text, most)
	if is || took != 0 || api.Code(err) != code || api.At(err) != place {
		t.Errorf("%s: %.40q with %d: %v %d %v, not %v at %d", shown(g), text, most, is, took, err, code, place)
	}
}

// accepts holds Accepts to an answer and to so many steps, and to ErrBudget with one fewer.
func accepts(t *testing.T, g api.Grammar, text string, want bool, steps int) {
	t.Helper()
	for _, most := range []int{steps, min(steps+1, api.MaxSteps), api.MaxSteps} {
		if is, took, err := Accepts(g, text, most); is != want || took != steps || err != nil {
			t.Errorf("%s: %.40q with %d: %v %d %v, not %v %d", shown(g), text, most, is, took, err, want, steps)
		}
	}
	isRefused(t, g, 0, text, 0, steps-1, api.ErrBudget, -1)
}

// P10.1, P10.2
func TestExamplesOfTheChapter(t *testing.T) {
	g := parsed(t, sums)
	for text, want := range map[string]bool{"1+(2+3)": true, "1+": false, "": false} {
		if is, _, err := Accepts(g, text, api.MaxSteps); is != want || err != nil {
			t.Error(text, is, err)
		}
	}
	if end, _, err := Match(g, 1, "12+x", 0, api.MaxSteps); end != 2 || err != nil {
		t.Error(end, err)
	}
	isRefused(t, g, 2, "a7", 1, 2, api.ErrBudget, -1)
	isRefused(t, g, 2, "a7", 1, 3, api.ErrBudget, -1)
	ends(t, g, 2, "a7", 1, 2, 4)
	if end, steps, err := Match(g, 2, "a7", 1, 9); end != 2 || steps != 4 || err != nil {
		t.Error(end, steps, err)
	}
}

// P10.1: each kind: where it ends, and the steps that it takes.
func TestKinds(t *testing.T) {
	for _, x := range []struct {
		body, text     string
		at, end, steps int
	}{
		{"()", "", 0, 0, 1}, {"()", "xy", 0, 0, 1}, {"()", "xy", 1, 1, 1}, {"()", "xy", 2, 2, 1},
		{"''", "", 0, 0, 1}, {"''", "x", 0, 0, 1}, {"''", "x", 1, 1, 1},
		{"'x'", "x", 0, 1, 1}, {"'x'", "", 0, -1, 1}, {"'x'", "y", 0, -1, 1}, {"'x'", "yx", 0, -1, 1}, {"'x'", "yx", 1, 2, 1}, {"'x'", "yx", 2, -1, 1}, {"'x'", "xx", 0, 1, 1},
		{"'xyz'", "xyz", 0, 3, 1}, {"'xyz'", "xy", 0, -1, 1}, {"'xyz'", "xyxyz", 2, 5, 1}, {"'xyz'", "xxyz", 0, -1, 1}, {"'xyz'", "xyy", 0, -1, 1}, {"'xyz'", "xyz", 1, -1, 1}, {"'xyz'", "xyz", 3, -1, 1},
		{"[x-z]", "y", 0, 1, 1}, {"[x-z]", "w", 0, -1, 1}, {"[x-z]", "", 0, -1, 1}, {"[x-z]", "wz", 1, 2, 1}, {"[x-z]", "xx", 2, -1, 1}, {"[^x-z]", "w", 0, 1, 1}, {"[^x-z]", "", 0, -1, 1},
		{"[]", "x", 0, -1, 1}, {"[]", "", 0, -1, 1}, {"[^]", "x", 0, 1, 1}, {"[^]", "", 0, -1, 1},
		{".", "x", 0, 1, 1}, {".", "", 0, -1, 1}, {".", "xy", 1, 2, 1}, {".", "xy", 2, -1, 1},
		{"'x' 'y'", "xy", 0, 2, 3}, {"'x' 'y'", "xx", 0, -1, 3}, {"'x' 'y'", "x", 0, -1, 3}, {"'x' 'y'", "yx", 0, -1, 2}, {"'x' 'y'", "yxy", 1, 3, 3},
		{"'x' 'y' 'z'", "xyz", 0, 3, 4}, {"'x' 'y' 'z'", "xz", 0, -1, 3}, {"'x' 'y' 'z'", "z", 0, -1, 2}, {"'x' 'y' 'z'", "xyx", 0, -1, 4},
		{"() ''", "", 0, 0, 3}, {"'' [] 'x'", "x", 0, -1, 3}, {"'x' ('y' 'z')", "xyz", 0, 3, 5},
		{"'x' / 'y'", "x", 0, 1, 2}, {"'x' / 'y'", "y", 0, 1, 3}, {"'x' / 'y'", "z", 0, -1, 3}, {"'x' / 'y'", "", 0, -1, 3}, {"'x' / 'y'", "zy", 1, 2, 3},
		{"'x' / 'xy'", "xy", 0, 1, 2}, {"'xy' / 'x'", "xy", 0, 2, 2}, {"'xy' / 'x'", "xx", 0, 1, 3}, {"() / 'x'", "x", 0, 0, 2}, {"'x' / ()", "y", 0, 0, 3}, {"'x' / 'y' / 'z'", "z", 0, 1, 4},
		{"('x' / 'xy') 'z'", "xyz", 0, -1, 4}, {"'x' 'y' / 'x' 'z'", "xz", 0, 2, 7}, {"'x' 'y' / 'z'", "x", 0, -1, 5},
		{"'x'?", "x", 0, 1, 2}, {"'x'?", "", 0, 0, 2}, {"'x'?", "y", 0, 0, 2}, {"'x'?", "yx", 1, 2, 2}, {"'x'?", "xx", 0, 1, 2}, {"()?", "x", 0, 0, 2}, {"('x'?)?", "y", 0, 0, 3}, {"'x'? 'x'", "x", 0, -1, 4}, {"('x' 'y')?", "xx", 0, 0, 4},
		{"'x'*", "", 0, 0, 2}, {"'x'*", "x", 0, 1, 3}, {"'x'*", "xxx", 0, 3, 5}, {"'x'*", "xxy", 1, 2, 3}, {"'x'*", "yx", 0, 0, 2}, {"'x'* 'x'", "xx", 0, -1, 6}, {"('x' 'y')*", "xyx", 0, 2, 7}, {"('x' / 'y')*", "yx", 0, 2, 9}, {"[]*", "x", 0, 0, 2}, {".*", "xyz", 0, 3, 5},
		{"'x'+", "", 0, -1, 2}, {"'x'+", "y", 0, -1, 2}, {"'x'+", "x", 0, 1, 3}, {"'x'+", "xxx", 0, 3, 5}, {"'x'+", "yxxy", 1, 3, 4}, {"'x'+ 'x'", "xx", 0, -1, 6}, {"('x' 'y')+", "xyx", 0, 2, 7}, {"('x' 'y')+", "xx", 0, -1, 4}, {"('x'+)+", "xx", 0, 2, 7}, {"('x'+)?", "", 0, 0, 3}, {"[]+", "x", 0, -1, 2},
		{"&'x'", "x", 0, 0, 2}, {"&'x'", "y", 0, -1, 2}, {"&'x'", "", 0, -1, 2}, {"&'x'", "yx", 1, 1, 2}, {"&'xy' 'x'", "xy", 0, 1, 4}, {"&('x' 'y') 'x'", "xy", 0, 1, 6}, {"&('x' 'y') 'x'", "xx", 0, -1, 5}, {"&()", "", 0, 0, 2}, {"&'x'*", "xx", 0, 0, 5}, {"&(&'x')", "x", 0, 0, 3},
		{"!'x'", "x", 0, -1, 2}, {"!'x'", "y", 0, 0, 2}, {"!'x'", "", 0, 0, 2}, {"!'x'", "yx", 0, 0, 2}, {"!'x'", "yx", 1, -1, 2}, {"!(!'x')", "x", 0, 0, 3}, {"!(!'x')", "y", 0, -1, 3}, {"!.", "", 0, 0, 2}, {"!.", "x", 0, -1, 2}, {"!.", "x", 1, 1, 2}, {"!'x' .", "y", 0, 1, 4}, {"!'x' .", "x", 0, -1, 3}, {"!()", "x", 0, -1, 2}, {"(!'x' .)*", "yyx", 0, 2, 12},
	} {
		ends(t, parsed(t, "a <- "+x.body), 0, x.text, x.at, x.end, x.steps)
	}
}

// P10.1: a Ref takes a step, and those of the rule's Body; the rule that is matched is its Body alone.
func TestRefs(t *testing.T) {
	for _, x := range []struct {
		source         string
		rule           int
		text           string
		at, end, steps int
	}{
		{"a <- b b <- 'x'", 0, "x", 0, 1, 2},
		{"a <- b b <- 'x'", 1, "x", 0, 1, 1},
		{"a <- b b <- 'x'", 0, "y", 0, -1, 2},
		{"b <- 'x' a <- b", 1, "yx", 1, 2, 2},
		{"a <- b c b <- c c <- 'x'", 0, "xx", 0, 2, 6},
		{"a <- 'x' a / 'y'", 0, "xxy", 0, 3, 12},
		{"a <- 'x' a / 'y'", 0, "xxz", 0, -1, 14},
		{"a <- '(' a ')' / ()", 0, "(())", 0, 4, 14},
		{"a <- '(' a ')' / ()", 0, "(()", 0, 0, 15},
		{"a <- 'x' b / 'z' b <- 'y' a", 1, "yxyz", 0, 4, 14},
		{"a <- &b . b <- 'xy'", 0, "xy", 0, 1, 5},
		{"a <- b* !b b <- 'x'", 0, "xx", 0, 2, 11},
		{"a <- b+ b <- 'x'", 0, "xx", 0, 2, 7},
		{"a <- b? b <- 'x'", 0, "", 0, 0, 3},
		{sums, 0, "1", 0, 1, 13},
		{sums, 0, "", 0, -1, 9},
		{sums, 1, "12+x", 0, 2, 16},
		{sums, 2, "(7)", 0, 3, 16},
	} {
		ends(t, parsed(t, x.source), x.rule, x.text, x.at, x.end, x.steps)
	}
}

// P10.1: texts are bytes, whatever they are.
func TestBytes(t *testing.T) {
	for b := range 256 {
		text := string([]byte{byte(b)})
		var c api.Class
		c[b/64] = 1 << (b % 64)
		for at, n := range []api.Node{lit(text), {Kind: api.Set, Class: c}, bare(api.Any)} {
			g := ruled(api.Rule{Name: "a", Body: over(api.Plus, n)})
			other := string([]byte{byte(b + 1)})
			ends(t, g, 0, text+text, 0, 2, 4)
			ends(t, g, 0, other+text, 1, 2, 3)
			if at < 2 {
				ends(t, g, 0, text+other, 0, 1, 3)
				ends(t, g, 0, other, 0, -1, 2)
			}
		}
	}
	ends(t, parsed(t, "a <- . . ."), 0, "\u20ac", 0, 3, 4)
	ends(t, parsed(t, "a <- .*"), 0, "\x00\xff\xc3", 0, 3, 5)
}

// P10.1: bytes behind a literal are not looked at, nor any beyond the end.
func TestLongestLiteral(t *testing.T) {
	long := strings.Repeat("x", api.MaxLit)
	g := ruled(api.Rule{Name: "a", Body: lit(long)})
	ends(t, g, 0, long, 0, api.MaxLit, 1)
	ends(t, g, 0, long+"x", 1, api.MaxLit+1, 1)
	ends(t, g, 0, long+"y", 0, api.MaxLit, 1)
	ends(t, g, 0, long, 1, -1, 1)
	ends(t, g, 0, long[1:]+"y", 0, -1, 1)
}

// P10.2: a success is not enough: it must end at the text's end.
func TestAccepts(t *testing.T) {
	g := parsed(t, "a <- 'x'* b <- 'y'")
	accepts(t, g, "", true, 2)
	accepts(t, g, "xx", true, 4)
	accepts(t, g, "xxy", false, 4)
	accepts(t, g, "y", false, 2)
	accepts(t, parsed(t, "a <- 'x' b <- 'y'"), "y", false, 1)
	accepts(t, parsed(t, "a <- 'x' / 'xy'"), "xy", false, 2)
	accepts(t, parsed(t, "a <- 'xy' / 'x'"), "xy", true, 2)
	accepts(t, parsed(t, "a <- &'x'"), "x", false, 2)
	accepts(t, parsed(t, "a <- []"), "", false, 1)
	accepts(t, parsed(t, "a <- ()"), "", true, 1)
	accepts(t, parsed(t, "a <- !'x' b / 'xz' b <- ."), "y", true, 6)
	accepts(t, parsed(t, sums), "1", true, 13)
	accepts(t, parsed(t, sums), "", false, 9)
}

// P10.1, P10.2: a language that no grammar without looks ahead has: as many x as y as z.
func TestLooksAhead(t *testing.T) {
	g := parsed(t, "s <- &(a 'z') 'x'+ b !. a <- 'x' a? 'y' b <- 'y' b? 'z'")
	for x := range 5 {
		for y := range 5 {
			for z := range 5 {
				text := strings.Repeat("x", x) + strings.Repeat("y", y) + strings.Repeat("z", z)
				if is, _, err := Accepts(g, text, api.MaxSteps); is != (x > 0 && x == y && y == z) || err != nil {
					t.Error(text, is, err)
				}
			}
		}
	}
}

// P10.1, P10.2: sound.Check's error is told ahead of all else, with its place.
func TestGrammarsThatAreRefused(t *testing.T) {
	dot := bare(api.Any)
	long := over(api.Seq, slices.Repeat([]api.Node{ref("a")}, api.MaxSource)...)
	for _, g := range []api.Grammar{
		{},
		ruled(api.Rule{Name: "a"}),
		ruled(api.Rule{Name: "", Body: dot}),
		ruled(api.Rule{Name: "a", Body: bare(13)}),
		ruled(api.Rule{Name: "a", Body: bare(api.MinInt)}),
		ruled(api.Rule{Name: "a", Body: bare(api.Star)}),
		ruled(api.Rule{Name: "a", Body: bare(api.Seq)}),
		ruled(api.Rule{Name: "a", Body: over(api.Alt, dot)}),
		ruled(api.Rule{Name: "a", Body: over(api.Not, dot, dot)}),
		ruled(api.Rule{Name: "a", Body: within(api.MaxNest+2, api.Not, dot)}),
		ruled(api.Rule{Name: "a", Body: dot}, api.Rule{Name: "b", Body: over(api.Seq, dot, bare(0))}),
		ruled(slices.Repeat([]api.Rule{{Name: "a", Body: dot}}, api.MaxRules+1)...),
		ruled(api.Rule{Name: "a", Body: long}),
		parsed(t, "a <- . b <- . a <- ."),
		parsed(t, "a <- . b <- . c"),
		parsed(t, "a <- 'x' ('y'?)*"),
		parsed(t, "a <- . b <- ()+"),
		parsed(t, "a <- a"),
		parsed(t, "a <- . b <- 'x'? c / . c <- !b ."),
	} {
		want := sound.Check(g)
		if want == nil {
			t.Fatal(shown(g), "is sound")
		}
		for _, most := range []int{0, 9, api.MaxSteps, -1, api.MaxSteps + 1} {
			for _, text := range []string{"", "xy", strings.Repeat("x", api.MaxText+1)} {
				isRefused(t, g, 0, text, 0, most, api.Code(want), api.At(want))
				isRefused(t, g, -1, text, 0, most, api.Code(want), api.At(want))
				isRefused(t, g, 0, text, len(text)+1, most, api.Code(want), api.At(want))
			}
		}
	}
}

// P10.1, P10.2: arguments that may not be, ahead of a text that is too long, that ahead of the steps.
func TestArguments(t *testing.T) {
	g := parsed(t, "a <- .* b <- 'x' c <- ()")
	full := strings.Repeat("x", api.MaxText)
	for _, text := range []string{"", "xy", full, full + "x"} {
		for _, most := range []int{0, 9, api.MaxSteps} {
			for _, rule := range []int{-1, 3, 4, 64, api.MinInt, api.MaxInt} {
				isRefused(t, g, rule, text, 0, most, api.ErrArg, -1)
			}
			for _, at := range []int{-1, len(text) + 1, api.MinInt, api.MaxInt} {
				isRefused(t, g, 0, text, at, most, api.ErrArg, -1)
				isRefused(t, g, 2, text, at, most, api.ErrArg, -1)
			}
		}
		for _, most := range []int{-1, api.MaxSteps + 1, api.MinInt, api.MaxInt} {
			isRefused(t, g, 0, text, 0, most, api.ErrArg, -1)
			isRefused(t, g, 2, text, len(text), most, api.ErrArg, -1)
			isRefused(t, g, 3, text, 0, most, api.ErrArg, -1)
		}
	}
	for _, most := range []int{0, 1, api.MaxSteps} {
		for _, at := range []int{0, 1, api.MaxText, api.MaxText + 1} {
			isRefused(t, g, 0, full+"x", at, most, api.ErrLong, -1)
			isRefused(t, g, 2, full+"x", at, most, api.ErrLong, -1)
		}
		isRefused(t, g, 0, full+full, 2*api.MaxText, most, api.ErrLong, -1)
	}
	ends(t, g, 0, full, 0, api.MaxText, api.MaxText+2)
	ends(t, g, 0, full, api.MaxText, api.MaxText, 2)
	ends(t, g, 1, full, api.MaxText-1, api.MaxText, 1)
	ends(t, g, 2, full, api.MaxText, api.MaxText, 1)
	accepts(t, g, full, true, api.MaxText+2)
	isRefused(t, g, 0, "", 0, 0, api.ErrBudget, -1)
}

// P10.1, P10.5: each number of steps, from none on.
func TestEachBudget(t *testing.T) {
	g := parsed(t, sums)
	const text = "(1+2)+34"
	_, steps, err := Match(g, 0, text, 0, api.MaxSteps)
	if err != nil {
		t.Fatal(err)
	}
	for most := range steps {
		isRefused(t, g, 0, text, 0, most, api.ErrBudget, -1)
	}
	for most := steps; most < 3*steps; most++ {
		if end, took, err := Match(g, 0, text, 0, most); end != len(text) || took != steps || err != nil {
			t.Error(most, end, took, err)
		}
	}
}

// doubling is a grammar of rules r0, r1 and so on, each of which takes twice the steps of the one ahead of it, and 3; and those steps.
func doubling(count int) ([]api.Rule, []int) {
	rules := []api.Rule{{Name: name(0), Body: over(api.Seq, lit(""), lit(""))}}
	steps := []int{3}
	for i := 1; i < count; i++ {
		rules = append(rules, api.Rule{Name: name(i), Body: over(api.Seq, ref(name(i-1)), ref(name(i-1)))})
		steps = append(steps, 2*steps[i-1]+3)
	}
	return rules, steps
}

// takes is a grammar whose start takes just so many steps, on every text.
func takes(want int) api.Grammar {
	rules, steps := doubling(20)
	body, left := bare(api.Seq), want-1
	for i := len(rules) - 1; i >= 0; i-- {
		for left > steps[i] {
			body.Subs = append(body.Subs, ref(name(i)))
			left -= steps[i] + 1
		}
	}
	for range left {
		body.Subs = append(body.Subs, lit(""))
	}
	return ruled(append([]api.Rule{{Name: "a", Body: body}}, rules...)...)
}

// P10.1, P10.5: as many steps as may be, and one more.
func TestMostSteps(t *testing.T) {
	for _, steps := range []int{3, 1000, api.MaxSteps - 1, api.MaxSteps} {
		ends(t, takes(steps), 0, "xy", 1, 1, steps)
		accepts(t, takes(steps), "", true, steps)
	}
	isRefused(t, takes(api.MaxSteps+1), 0, "", 0, api.MaxSteps, api.ErrBudget, -1)
	rules, _ := doubling(api.MaxRules)
	g := ruled(rules...)
	for _, most := range []int{0, 1, 1000, api.MaxSteps} {
		isRefused(t, g, api.MaxRules-1, "", 0, most, api.ErrBudget, -1)
	}
	// A text may make it so many, too: each y that is missing has all behind it matched once more.
	back := parsed(t, "a <- 'x' a 'y' / 'x' a 'z' / 'x'")
	isRefused(t, back, 0, strings.Repeat("x", 40), 0, api.MaxSteps, api.ErrBudget, -1)
}

// chained is a grammar of so many rules, each of which is a Ref of the next one in so many expressions, told as a text with `_` for
// what stands within; and of a last one: an x and all of that again, or a y.
func chained(t *testing.T, count int, around string, deep int) api.Grammar {
	t.Helper()
	var source strings.Builder
	for i := range count {
		body := name(i + 1)
		for range deep {
			body = strings.Replace(around, "_", body, 1)
		}
		source.WriteString(name(i) + "<-" + body + "\n")
	}
	source.WriteString(name(count) + "<-'x'r0/'y'")
	return parsed(t, source.String())
}

// P10.1, P10.5, with W1: successes within each other, in as many steps as may be.
func TestDeepSuccesses(t *testing.T) {
	for _, x := range []struct {
		around       string
		steps, count int  // of each expression; rules
		isLook       bool // so that only the first x is taken
	}{
		{"(_)?", 1, 63, false}, {"&(_)", 1, 63, true}, {"!(_)", 1, 63, true}, {"(_ '')", 2, 40, false}, {"('' _)", 2, 40, false}, {"(_/.)", 1, 40, false}, {"([]/_)", 2, 40, false},
	} {
		const deep = 20
		g := chained(t, x.count, x.around, deep)
		// Once through all rules, to the last one's choice, row, 'x' and Ref, or choice, row, 'x' and 'y'.
		round := x.count*(deep*x.steps+1) + 4
		many := api.MaxSteps / round
		text := strings.Repeat("x", many-1) + "y"
		want, steps := len(text), many*round-x.count*(deep*x.steps+1)
		if x.isLook {
			want = 1
		}
		if end, took, err := Match(g, x.count, text, 0, api.MaxSteps); end != want || took != steps || err != nil {
			t.Error(x.around, end, took, err, "not", want, steps)
		}
		isRefused(t, g, x.count, text, 0, steps-1, api.ErrBudget, -1)
	}
}

// P10.1, with W1: steps within each other, as many as may be, and none of them ends.
func TestDeepBudgets(t *testing.T) {
	full := strings.Repeat("x", api.MaxText)
	for around, deep := range map[string]int{"(_)?": 22, "(_)+": 22, "&(_)": 22, "!(_)": 22, "(_ .)": 22, "(_/.)": 22} {
		isRefused(t, chained(t, 40, around, deep), 0, full, 0, api.MaxSteps, api.ErrBudget, -1)
	}
	// Each x has its row of Refs, a choice, a row, an 'x', a Ref and, as all fail, a 'y'; the end has no Ref.
	ends(t, chained(t, 63, "_", 1), 0, full, 0, -1, 68*api.MaxText+67)
	// Repetitions within each other where they go on: two bytes take 8 steps; the end takes 5; and, but at the innermost one, the last
	// y is tried once more in vain, in 10.
	ends(t, parsed(t, "a <- ('x' / 'y' b)+ b <- ('x' / 'y' a)+"), 0, strings.Repeat("xy", api.MaxText/2), 0, api.MaxText-1, 9*api.MaxText-5)
}

// copied is a grammar in other memory, the spare room of its lists too.
func copied(g api.Grammar) api.Grammar {
	rules := slices.Clone(g.Rules[:cap(g.Rules)])
	for i := range rules {
		rules[i].Body = copiedNode(rules[i].Body)
	}
	return api.Grammar{Rules: rules[:len(g.Rules)]}
}

func copiedNode(n api.Node) api.Node {
	whole := slices.Clone(n.Subs[:cap(n.Subs)])
	for i := range whole {
		whole[i] = copiedNode(whole[i])
	}
	n.Subs = whole[:len(n.Subs)]
	return n
}

// isSame tells whether two grammars are the same, in the spare room of their lists too.
func isSame(g, h api.Grammar) bool {
	return len(g.Rules) == len(h.Rules) && slices.EqualFunc(g.Rules[:cap(g.Rules)], h.Rules[:cap(g.Rules)], func(a, b api.Rule) bool {
		return a.Name == b.Name && a.At == b.At && isSameNode(a.Body, b.Body)
	})
}

func isSameNode(n, m api.Node) bool {
	if n.Kind != m.Kind || n.Text != m.Text || n.Class != m.Class || n.At != m.At || len(n.Subs) != len(m.Subs) {
		return false
	}
	return slices.EqualFunc(n.Subs[:cap(n.Subs)], m.Subs[:cap(n.Subs)], isSameNode)
}

// roomy is a grammar whose lists have spare room, with something in it.
func roomy() api.Grammar {
	subs := append(make([]api.Node, 0, 5), over(api.Star, lit("x")), ref("b"))
	_ = append(subs, bare(99), ref("c"))
	rules := append(make([]api.Rule, 0, 4), api.Rule{Name: "a", At: 2, Body: api.Node{Kind: api.Seq, Subs: subs, At: 7}}, api.Rule{Name: "b", At: 1, Body: lit("y")})
	_ = append(rules, api.Rule{Name: "a", Body: ref("a")})
	return api.Grammar{Rules: rules}
}

// P10.3: what is handed in, its spare room too, is as it was, whatever is answered.
func TestNothingIsChanged(t *testing.T) {
	g := roomy()
	was := copied(g)
	for _, text := range []string{"xxy", "xx", "", strings.Repeat("x", api.MaxText+1)} {
		for _, most := range []int{-1, 0, 3, 6, 100} {
			Match(g, 0, text, 0, most)
			Match(g, 1, text, len(text), most)
			Accepts(g, text, most)
			if !isSame(was, g) {
				t.Fatal(text, most, g, "not", was)
			}
		}
	}
	accepts(t, g, "xxy", true, 7)
}

// P10.3: nothing is kept: a grammar that was changed is matched as it is now, and one that was not as ever.
func TestNothingIsKept(t *testing.T) {
	g := roomy()
	same := roomy()
	accepts(t, g, "xxy", true, 7)
	isRefused(t, g, 0, "xxy", 0, 6, api.ErrBudget, -1)
	g.Rules[0].Body.Subs[0].Subs[0].Text = "xx"
	g.Rules[1].Body.Text = "z"
	accepts(t, g, "xxy", false, 6)
	accepts(t, g, "xxz", true, 6)
	accepts(t, same, "xxy", true, 7)
	g.Rules[0].Name, g.Rules[1].Name = "b", "a"
	isRefused(t, g, 0, "xxz", 0, 9, api.ErrLeft, 2)
}

// P10.1, P10.2, with W2: calls at one time know nothing of each other.
func TestCallsAtOneTime(t *testing.T) {
	g := parsed(t, sums)
	var group sync.WaitGroup
	for i := range 16 {
		text := strings.Repeat("(", i) + "1" + strings.Repeat(")", i)
		group.Go(func() {
			for range 20 {
				// Each pair of parentheses takes a choice, a Plus, a Set, a row and both signs, two Refs, a row, and a Star that fails.
				if is, steps, err := Accepts(g, text, 13+12*i); !is || steps != 13+12*i || err != nil {
					t.Error(text, is, steps, err)
				}
				if is, steps, err := Accepts(g, text, 12+12*i); is || steps != 0 || err != api.ErrBudget {
					t.Error(text, is, steps, err)
				}
			}
		})
	}
	group.Wait()
}

// judgement is what a match comes to.
type judgement struct{ end, steps int }

// manySteps is beyond all that may be taken: more are not counted.
const manySteps = api.MaxSteps + 1

// judge tells the chapter another way: what each expression comes to at each place, once for all, and the steps as a sum.
type judge struct {
	g     api.Grammar
	text  string
	known map[*api.Node]map[int]judgement
}

func judgeOf(g api.Grammar, text string) *judge {
	return &judge{g: g, text: text, known: map[*api.Node]map[int]judgement{}}
}

// of is what an expression comes to at a place.
func (j *judge) of(n *api.Node, at int) judgement {
	if j.known[n] == nil {
		j.known[n] = map[int]judgement{}
	}
	out, isKnown := j.known[n][at]
	if !isKnown {
		out = j.rest(n, at)
		out.steps = min(out.steps+1, manySteps)
		j.known[n][at] = out
	}
	return out
}

// rest is what an expression comes to, with the steps of its parts alone.
func (j *judge) rest(n *api.Node, at int) judgement {
	switch n.Kind {
	case api.Empty:
		return judgement{at, 0}
	case api.Lit:
		if rest, is := strings.CutPrefix(j.text[at:], n.Text); is {
			return judgement{len(j.text) - len(rest), 0}
		}
	case api.Set, api.Any:
		if at < len(j.text) && (n.Kind == api.Any || n.Class[j.text[at]/64]>>(j.text[at]%64)&1 == 1) {
			return judgement{at + 1, 0}
		}
	case api.Ref:
		i := slices.IndexFunc(j.g.Rules, func(rule api.Rule) bool { return rule.Name == n.Text })
		return j.of(&j.g.Rules[i].Body, at)
	case api.Seq, api.Alt:
		return j.parts(n, at)
	default:
		return j.onePart(n, at)
	}
	return judgement{-1, 0}
}

// parts is what a row or a choice comes to: a row goes on behind a success, a choice behind a failure.
func (j *judge) parts(n *api.Node, at int) judgement {
	steps, end := 0, at
	for i := range n.Subs {
		next := j.of(&n.Subs[i], at)
		steps, end = min(steps+next.steps, manySteps), next.end
		if (end < 0) == (n.Kind == api.Seq) {
			break
		}
		if n.Kind == api.Seq {
			at = end
		}
	}
	return judgement{end, steps}
}

// onePart is what an expression of one part comes to.
func (j *judge) onePart(n *api.Node, at int) judgement {
	part := j.of(&n.Subs[0], at)
	is := part.end >= 0
	switch {
	case n.Kind == api.And && is, n.Kind == api.Not && !is, n.Kind == api.Opt && !is, n.Kind == api.Star && !is:
		return judgement{at, part.steps}
	case n.Kind == api.Opt, n.Kind == api.Plus && !is:
		return part
	case n.Kind == api.And, n.Kind == api.Not:
		return judgement{-1, part.steps}
	}
	// A repetition goes on as a Star from where its part ended; only whether that failed at once tells one from the other.
	more := j.rest(&api.Node{Kind: api.Star, Subs: n.Subs}, part.end)
	return judgement{more.end, min(part.steps+more.steps, manySteps)}
}

// checkMatch holds Match to the judge at a place of a text, and to P10.5; it answers whether the steps were enough.
func checkMatch(t *testing.T, g api.Grammar, j *judge, rule, at int) bool {
	t.Helper()
	want := j.of(&g.Rules[rule].Body, at)
	if want.steps == manySteps {
		isRefused(t, g, rule, j.text, at, api.MaxSteps, api.ErrBudget, -1)
		return false
	}
	end, steps, err := Match(g, rule, j.text, at, api.MaxSteps)
	if end != want.end || steps != want.steps || err != nil {
		t.Fatalf("%s: %d of %q at %d: %d %d %v, not %d %d", shown(g), rule, j.text, at, end, steps, err, want.end, want.steps)
	}
	if end, took, err := Match(g, rule, j.text, at, steps); end != want.end || took != steps || err != nil {
		t.Fatalf("%s: %d of %q at %d with %d: %d %d %v", shown(g), rule, j.text, at, steps, end, took, err)
	}
	isRefused(t, g, rule, j.text, at, steps-1, api.ErrBudget, -1)
	if rule == 0 && at == 0 {
		accepts(t, g, j.text, end == len(j.text), steps)
	}
	return true
}

// isTold holds what a rule came to, to what it may come to and with what it may begin.
func isTold(t *testing.T, g api.Grammar, rule int, text string, at int) {
	t.Helper()
	end, _, err := Match(g, rule, text, at, api.MaxSteps)
	outs, err2 := nullable.Rules(g)
	aheads, err3 := first.Rules(g)
	if err != nil || err2 != nil || err3 != nil {
		t.Fatal(shown(g), text, err, err2, err3)
	}
	out := outs[rule]
	if end == at && !out.Zero || end > at && !out.Some || end < at && (!out.Fail || end != -1) {
		t.Errorf("%s: %d of %q at %d: %d, but %v", shown(g), rule, text, at, end, out)
	}
	if end >= 0 && !first.May(aheads[rule], text, at) {
		t.Errorf("%s: %d of %q at %d: %d, but %v", shown(g), rule, text, at, end, aheads[rule])
	}
}

// P10.4: named cases, at each place of texts.
func TestAsItWasTold(t *testing.T) {
	for _, source := range []string{
		sums, "a <- ()", "a <- ''", "a <- 'x'", "a <- []", "a <- [xy]", "a <- .", "a <- !.", "a <- &.", "a <- 'x'?", "a <- 'x'*", "a <- 'x'+", "a <- !'x' .", "a <- &[xy] [yz]", "a <- ('x' / ()) 'y'?", "a <- ([] / ()) !([] ())",
		"a <- 'x' a / b b <- 'y'? !'z'", "a <- b c? d* b <- !c / 'xy' c <- 'x' d d <- &b .", "a <- &('x' / ())", "a <- !(!'x')", "a <- (!'y' .)+ / 'y'",
	} {
		g := parsed(t, source)
		for _, text := range []string{"", "x", "y", "z", "xy", "xyz", "yxzxy", "zzxxy", "1+(2)", "\x00\xff"} {
			for at := range len(text) + 1 {
				for rule := range g.Rules {
					isTold(t, g, rule, text, at)
				}
			}
		}
	}
}

// isShifted holds a success to end as much farther on, and a failure to fail, with other bytes ahead; in as many steps.
func isShifted(t *testing.T, g api.Grammar, rule int, text string, at int, ahead string) {
	t.Helper()
	end, steps, err := Match(g, rule, text, at, api.MaxSteps)
	if err != nil {
		t.Fatal(shown(g), text, err)
	}
	want := end
	if end >= 0 {
		want = end - at + len(ahead)
	}
	got, took, err := Match(g, rule, ahead+text[at:], len(ahead), api.MaxSteps)
	if got != want || took != steps || err != nil {
		t.Errorf("%s: %d of %q at %d: %d %d, behind %q: %d %d %v", shown(g), rule, text, at, end, steps, ahead, got, took, err)
	}
}

// P10.5: what stands ahead of a place is not looked at.
func TestOtherBytesAhead(t *testing.T) {
	for _, source := range []string{sums, "a <- 'x' a / !'y' . / ()", "a <- &b .* b <- 'xy'", "a <- !. / 'x'"} {
		g := parsed(t, source)
		for _, text := range []string{"", "xyx", "1+(2+3)", "yyx"} {
			for at := range len(text) + 1 {
				for rule := range g.Rules {
					for _, ahead := range []string{"", "x", "xy", "(1+", strings.Repeat("y", api.MaxText-len(text))} {
						isShifted(t, g, rule, text, at, ahead)
					}
				}
			}
		}
	}
}

// P10.1: places in sources are not looked at.
func TestPlacesOfNodesAreNotLookedAt(t *testing.T) {
	g := roomy()
	for _, at := range []int{api.MinInt, -1, 0, 5, api.MaxInt} {
		g.Rules[0].At, g.Rules[1].At, g.Rules[0].Body.At, g.Rules[0].Body.Subs[0].At, g.Rules[0].Body.Subs[1].At = at, at, at, at, at
		accepts(t, g, "xxy", true, 7)
	}
}

// dice are numbers that look like chance, the same ones in every run.
type dice uint64

// roll is a number below n.
func (d *dice) roll(n int) int {
	*d = *d*6364136223846793005 + 1442695040888963407
	return int(*d>>33) % n
}

// text is one of so many letters.
func (d *dice) text(long int) string {
	var out strings.Builder
	for range long {
		out.WriteByte("xxyyz"[d.roll(5)])
	}
	return out.String()
}

// node is a tree, up to so many nodes deep, of names of rules up to a number.
func (d *dice) node(deep, names int) api.Node {
	kind := 1 + d.roll(12)
	if deep == 0 {
		kind = 1 + d.roll(5)
	}
	n := api.Node{Kind: kind}
	switch {
	case kind == api.Lit:
		n.Text = d.text(d.roll(3))
	case kind == api.Set:
		for _, b := range []byte(d.text(d.roll(3))) {
			n.Class[b/64] |= 1 << (b % 64)
		}
	case kind == api.Ref:
		n.Text = name(d.roll(names))
	case kind == api.Seq || kind == api.Alt:
		for range 2 + d.roll(3) {
			n.Subs = append(n.Subs, d.node(deep-1, names))
		}
	case kind > api.Alt:
		n.Subs = []api.Node{d.node(deep-1, names)}
	}
	return n
}

// sound is a sound grammar of up to five rules.
func (d *dice) sound() api.Grammar {
	for {
		var g api.Grammar
		count := 1 + d.roll(5)
		for i := range count {
			g.Rules = append(g.Rules, api.Rule{Name: name(i), Body: d.node(1+d.roll(3), count)})
		}
		if sound.Check(g) == nil {
			return g
		}
	}
}

// tally is how many matches came to what.
type tally struct{ zero, some, fail, budget int }

// checkText holds all rules of a grammar to the chapter at each place of a text.
func (c *tally) checkText(t *testing.T, g api.Grammar, text string, ahead string) {
	t.Helper()
	j := judgeOf(g, text)
	for rule := range g.Rules {
		for at := range len(text) + 1 {
			if !checkMatch(t, g, j, rule, at) {
				c.budget++
				continue
			}
			isTold(t, g, rule, text, at)
			isShifted(t, g, rule, text, at, ahead)
			switch end := j.of(&g.Rules[rule].Body, at).end; {
			case end == at:
				c.zero++
			case end > at:
				c.some++
			default:
				c.fail++
			}
		}
	}
}

// P10.1, P10.2, P10.4, P10.5: drawn grammars and texts, against the chapter told another way.
func TestDrawnGrammars(t *testing.T) {
	d := dice(10)
	var c tally
	for range 1000 {
		g := d.sound()
		for range 3 {
			c.checkText(t, g, d.text(d.roll(7)), d.text(d.roll(4)))
		}
	}
	if c.zero < 10000 || c.some < 5000 || c.fail < 10000 {
		t.Error("few matches of a kind:", c)
	}
}

// P10.1, P10.2, P10.4, P10.5: one grammar, at all short texts.
func TestAllShortTexts(t *testing.T) {
	g := parsed(t, "s <- a b? c* !. a <- 'x'+ / 'y' s? 'z' b <- &('xy' / 'z') [xy] / !c . c <- 'y' (a / b 'y')")
	texts := []string{""}
	var c tally
	for i := 0; i < len(texts) && len(texts[i]) < 6; i++ {
		c.checkText(t, g, texts[i], "yx")
		for _, b := range []string{"x", "y", "z"} {
			texts = append(texts, texts[i]+b)
		}
	}
	if c.zero > 0 || c.some < 1000 || c.fail < 1000 {
		t.Error("few matches of a kind:", c)
	}
}

// checkSource holds both calls to the chapter at a source's tree.
func checkSource(t *testing.T, source, text string, rule, at, most int) {
	g, err := syntax.Parse(source)
	if err != nil || len(source) > 300 || len(text) > 60 {
		return
	}
	isArg := rule < 0 || rule >= len(g.Rules) || at < 0 || at > len(text) || most < 0 || most > api.MaxSteps
	if err := sound.Check(g); err != nil {
		isRefused(t, g, rule, text, at, most, api.Code(err), api.At(err))
		return
	}
	if isArg {
		isRefused(t, g, rule, text, at, most, api.ErrArg, -1)
		return
	}
	if !checkMatch(t, g, judgeOf(g, text), rule, at) {
		return
	}
	isTold(t, g, rule, text, at)
	isShifted(t, g, rule, text, at, "x")
}

func FuzzFord(f *testing.F) {
	for _, s := range []string{sums, "a <- 'x' a / 'y'", "a <- (!'y' .)* &'y' b? b <- [x-z]+", "a <- a", "a <- ('x'?)*", "a <- b", "a <- () / . ''"} {
		f.Add(s, "xxy", 0, 0, 9)
		f.Add(s, "1+(2)", 1, 5, 100)
	}
	f.Fuzz(checkSource)
}
