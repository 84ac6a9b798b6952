package spans

import (
	"fmt"
	"slices"
	"strconv"
	"strings"
	"sync"
	"testing"

	"muntin/api"
	"muntin/code"
	"muntin/packrat"
	"muntin/printer"
	"muntin/syntax"
)

// sums is the grammar of the chapter's examples.
const sums = "s <- e !. e <- t ('+' t)* t <- [0-9]+ / '(' e ')'"

// row is the spans of so many numbers, four a span: Rule, From, To, Deep.
func row(numbers ...int) []api.Span {
	var l []api.Span
	for four := range slices.Chunk(numbers, 4) {
		l = append(l, api.Span{Rule: four[0], From: four[1], To: four[2], Deep: four[3]})
	}
	return l
}

// name is one of a rule, for each place another one.
func name(place int) string { return "r" + strconv.Itoa(place) }

// program is that of a grammar.
func program(t testing.TB, g api.Grammar) api.Program {
	t.Helper()
	p, err := code.Make(g)
	if err != nil {
		t.Fatal(g, err)
	}
	return p
}

// made is the program of a source.
func made(t testing.TB, s string) api.Program {
	t.Helper()
	g, err := syntax.Parse(s)
	if err != nil {
		t.Fatal(s, err)
	}
	return program(t, g)
}

// shown is the text of a program's grammar, as much of it as is worth telling; of what is none, its numbers.
func shown(p api.Program) string {
	text := fmt.Sprint(p)
	if g, err := code.Grammar(p); err == nil {
		text, _ = printer.Print(g)
	}
	return text[:min(len(text), 200)]
}

// has holds Tree to spans, with as many notes as it takes and with more, and to ErrBudget with one fewer.
func has(t *testing.T, p api.Program, text string, want []api.Span) {
	t.Helper()
	_, count, err := packrat.Accepts(p, text, api.MaxSteps)
	if err != nil {
		t.Fatal(shown(p), text, err)
	}
	for _, most := range []int{count, min(count+1, api.MaxSteps), api.MaxSteps} {
		if l, is, err := Tree(p, text, most); !is || err != nil || !slices.Equal(l, want) {
			t.Errorf("%s: %.40q with %d: %.200s %v %v, not %.200s", shown(p), text, most, fmt.Sprint(l), is, err, fmt.Sprint(want))
		}
	}
	isRefused(t, p, text, count-1, api.ErrBudget)
}

// hasNone holds Tree to none, false.
func hasNone(t *testing.T, p api.Program, text string, most int) {
	t.Helper()
	if l, is, err := Tree(p, text, most); len(l) != 0 || is || err != nil {
		t.Errorf("%s: %.40q with %d: %d spans %v %v", shown(p), text, most, len(l), is, err)
	}
}

// isRefused holds Tree to an error with nothing beside it.
func isRefused(t *testing.T, p api.Program, text string, most int, code api.Errno) {
	t.Helper()
	if l, is, err := Tree(p, text, most); len(l) != 0 || is || api.Code(err) != code {
		t.Errorf("%s: %.40q with %d: %d spans %v %v, not %v", shown(p), text, most, len(l), is, err, code)
	}
}

// says holds Text to a text.
func says(t *testing.T, p api.Program, l []api.Span, text, want string) {
	t.Helper()
	if s, err := Text(p, l, text); s != want || err != nil {
		t.Errorf("%s: %.200s in %.40q: %.200q %v, not %.200q", shown(p), fmt.Sprint(l), text, s, err, want)
	}
}

// isUnsaid holds Text to an error with nothing beside it.
func isUnsaid(t *testing.T, p api.Program, l []api.Span, text string, code api.Errno) {
	t.Helper()
	if s, err := Text(p, l, text); s != "" || api.Code(err) != code {
		t.Errorf("%s: %.200s in %.40q: %.40q %v, not %v", shown(p), fmt.Sprint(l), text, s, err, code)
	}
}

// P13.1, P13.3
func TestExamplesOfTheChapter(t *testing.T) {
	p := made(t, sums)
	l := row(0, 0, 4, 0, 1, 0, 4, 1, 2, 0, 1, 2, 2, 2, 4, 2)
	has(t, p, "1+23", l)
	says(t, p, l, "1+23", "s '1+23'\n\te '1+23'\n\t\tt '1'\n\t\tt '23'\n")
	hasNone(t, p, "1+", api.MaxSteps)
}

// P13.1: what a success of each kind is made of. The rules x and y are their letters, n is nothing, w one x or more.
func TestKinds(t *testing.T) {
	const rules = "\nx <- 'x' y <- 'y' n <- () w <- x+"
	for _, c := range []struct {
		body, text string
		within     []api.Span
	}{
		{"()", "", nil}, {"''", "", nil}, {"'x'", "x", nil}, {"[x-z]", "y", nil}, {".", "z", nil},
		{"x", "x", row(1, 0, 1, 1)},
		{"n", "", row(3, 0, 0, 1)},
		{"w", "xx", row(4, 0, 2, 1, 1, 0, 1, 2, 1, 1, 2, 2)},
		{"x y", "xy", row(1, 0, 1, 1, 2, 1, 2, 1)},
		{"x x", "xx", row(1, 0, 1, 1, 1, 1, 2, 1)},
		{"n x n n y n", "xy", row(3, 0, 0, 1, 1, 0, 1, 1, 3, 1, 1, 1, 3, 1, 1, 1, 2, 1, 2, 1, 3, 2, 2, 1)},
		{"'x' x (y 'z' w) .", "xxyzxxy", row(1, 1, 2, 1, 2, 2, 3, 1, 4, 4, 6, 1, 1, 4, 5, 2, 1, 5, 6, 2)},
		{"'x' x (y 'z' w) .", "xxyzxy", row(1, 1, 2, 1, 2, 2, 3, 1, 4, 4, 5, 1, 1, 4, 5, 2)},
		{"x / y", "x", row(1, 0, 1, 1)}, {"x / y", "y", row(2, 0, 1, 1)},
		{"x / x / y", "x", row(1, 0, 1, 1)},
		{"w / x", "x", row(4, 0, 1, 1, 1, 0, 1, 2)},
		{"x y / x x / x", "xx", row(1, 0, 1, 1, 1, 1, 2, 1)},
		{"x y / x x / x", "x", row(1, 0, 1, 1)},
		{"n / x", "", row(3, 0, 0, 1)},
		{"[] / () / n", "", nil},
		{"(x / y) (x / y)", "yx", row(2, 0, 1, 1, 1, 1, 2, 1)},
		{"x?", "x", row(1, 0, 1, 1)}, {"x?", "", nil}, {"n?", "", row(3, 0, 0, 1)},
		{"x? y", "y", row(2, 0, 1, 1)}, {"(x y)? x", "x", row(1, 0, 1, 1)}, {"(x y)? x", "xyx", row(1, 0, 1, 1, 2, 1, 2, 1, 1, 2, 3, 1)},
		{"(x?)?", "x", row(1, 0, 1, 1)},
		{"x*", "", nil}, {"x*", "x", row(1, 0, 1, 1)}, {"x*", "xxx", row(1, 0, 1, 1, 1, 1, 2, 1, 1, 2, 3, 1)},
		{"(x y)*", "xyxy", row(1, 0, 1, 1, 2, 1, 2, 1, 1, 2, 3, 1, 2, 3, 4, 1)},
		{"(x y)* x", "xyx", row(1, 0, 1, 1, 2, 1, 2, 1, 1, 2, 3, 1)},
		{"(x / y n)* .", "xyz", row(1, 0, 1, 1, 2, 1, 2, 1, 3, 2, 2, 1)},
		{"(x* y)*", "xyy", row(1, 0, 1, 1, 2, 1, 2, 1, 2, 2, 3, 1)},
		{"x+", "x", row(1, 0, 1, 1)}, {"x+", "xx", row(1, 0, 1, 1, 1, 1, 2, 1)}, {"(x / y)+", "yx", row(2, 0, 1, 1, 1, 1, 2, 1)},
		{"(x+ y?)+ 'z'", "xyxz", row(1, 0, 1, 1, 2, 1, 2, 1, 1, 2, 3, 1)},
		{"&x .", "x", nil}, {"&w x x", "xx", row(1, 0, 1, 1, 1, 1, 2, 1)}, {"!x y", "y", row(2, 0, 1, 1)}, {"!(!x) x", "x", row(1, 0, 1, 1)},
		{"&(x &y) x !x y", "xy", row(1, 0, 1, 1, 2, 1, 2, 1)}, {"(!y x)* y", "xy", row(1, 0, 1, 1, 2, 1, 2, 1)},
		{"x !.", "x", row(1, 0, 1, 1)}, {"!(x y) x", "x", row(1, 0, 1, 1)}, {"&x? &x* &n", "", nil},
	} {
		has(t, made(t, "a <- "+c.body+rules), c.text, append(row(0, 0, len(c.text), 0), c.within...))
	}
}

// P13.1: rules within rules: how deep they are, and that they come back up.
func TestDepths(t *testing.T) {
	p := made(t, sums)
	has(t, p, "7", row(0, 0, 1, 0, 1, 0, 1, 1, 2, 0, 1, 2))
	has(t, p, "(1)", row(0, 0, 3, 0, 1, 0, 3, 1, 2, 0, 3, 2, 1, 1, 2, 3, 2, 1, 2, 4))
	has(t, p, "(1+2)+3", row(0, 0, 7, 0, 1, 0, 7, 1, 2, 0, 5, 2, 1, 1, 4, 3, 2, 1, 2, 4, 2, 3, 4, 4, 2, 6, 7, 2))
	has(t, made(t, "a <- 'x' a / 'y'"), "xxy", row(0, 0, 3, 0, 0, 1, 3, 1, 0, 2, 3, 2))
	has(t, made(t, "a <- '(' a ')' a / ()"), "()()", row(0, 0, 4, 0, 0, 1, 1, 1, 0, 2, 4, 1, 0, 3, 3, 2, 0, 4, 4, 2))
	has(t, made(t, "a <- b b <- c c <- d d <- ()"), "", row(0, 0, 0, 0, 1, 0, 0, 1, 2, 0, 0, 2, 3, 0, 0, 3))
	has(t, made(t, "a <- d c b b <- () c <- b d <- c b"), "", row(0, 0, 0, 0, 3, 0, 0, 1, 2, 0, 0, 2, 1, 0, 0, 3, 1, 0, 0, 2, 2, 0, 0, 1, 1, 0, 0, 2, 1, 0, 0, 1))
	// Alike expressions are one operation: each of them counts where it stands.
	has(t, made(t, "a <- b c b <- 'x' b / 'y' c <- 'x' b / 'y'"), "xyxy", row(0, 0, 4, 0, 1, 0, 2, 1, 1, 1, 2, 2, 2, 2, 4, 1, 1, 3, 4, 2))
}

// P13.1: what was tried and failed leaves no span, nor does what was looked ahead at.
func TestWhatFailed(t *testing.T) {
	has(t, made(t, "a <- b 'y' / c b <- 'x' c <- 'xz'"), "xz", row(0, 0, 2, 0, 2, 0, 2, 1))
	has(t, made(t, "a <- b c 'y' / b 'z' b <- 'x' c <- ()"), "xz", row(0, 0, 2, 0, 1, 0, 1, 1))
	has(t, made(t, "a <- &b c b <- 'x' c <- ."), "x", row(0, 0, 1, 0, 2, 0, 1, 1))
	has(t, made(t, "a <- !b c b <- c c c <- 'x'"), "x", row(0, 0, 1, 0, 2, 0, 1, 1))
	has(t, made(t, "a <- (b c)* b? b <- 'x' c <- 'y'"), "xyx", row(0, 0, 3, 0, 1, 0, 1, 1, 2, 1, 2, 1, 1, 2, 3, 1))
	has(t, made(t, "a <- b / c b <- d 'y' c <- d 'z' d <- 'x'"), "xz", row(0, 0, 2, 0, 2, 0, 2, 1, 3, 0, 1, 2))
}

// P13.1, P13.6: the start may succeed, and not be accepted.
func TestNotAccepted(t *testing.T) {
	p := made(t, "a <- b* b <- 'x' c <- 'y'")
	has(t, p, "", row(0, 0, 0, 0))
	has(t, p, "xx", row(0, 0, 2, 0, 1, 0, 1, 1, 1, 1, 2, 1))
	for _, text := range []string{"xxy", "y", "yx", "z"} {
		hasNone(t, p, text, api.MaxSteps)
	}
	hasNone(t, made(t, "a <- []"), "", 1)
	hasNone(t, made(t, "a <- &b b <- 'x'"), "x", 100)
	hasNone(t, made(t, "a <- b 'y' b <- 'x'"), "x", 100)
	// The first part succeeds: the second one, which would go up to the end, is not tried.
	hasNone(t, made(t, "a <- b / c b <- 'x' c <- 'xx'"), "xx", 100)
}

// P13.1: texts are bytes, whatever they are.
func TestBytes(t *testing.T) {
	p := made(t, "a <- b* b <- .")
	var text []byte
	want := row(0, 0, 256, 0)
	for b := range 256 {
		text = append(text, byte(b))
		want = append(want, api.Span{Rule: 1, From: b, To: b + 1, Deep: 1})
	}
	has(t, p, string(text), want)
	has(t, p, "\u20ac", row(0, 0, 3, 0, 1, 0, 1, 1, 1, 1, 2, 1, 1, 2, 3, 1))
}

// noPrograms are some.
func noPrograms(t *testing.T) []api.Program {
	t.Helper()
	names, dot := []string{"a"}, api.Op{Kind: api.Any}
	unused, left := made(t, "a <- 'x'"), made(t, "a <- b / 'x' b <- 'y'")
	unused.Ops = append(unused.Ops, dot)
	left.Ops[0].Subs[0] = 0
	return []api.Program{
		{},
		{Names: names, Roots: []int{0}},
		{Ops: []api.Op{dot}, Names: names},
		{Ops: []api.Op{dot}, Names: names, Roots: []int{1}},
		{Ops: []api.Op{dot}, Names: names, Roots: []int{-1}},
		{Ops: []api.Op{dot}, Names: []string{"a", "a"}, Roots: []int{0, 0}},
		{Ops: []api.Op{dot}, Names: []string{"1"}, Roots: []int{0}},
		{Ops: []api.Op{{Kind: 13}}, Names: names, Roots: []int{0}},
		{Ops: []api.Op{{Kind: api.Star, Subs: []int{0}}}, Names: names, Roots: []int{0}},
		{Ops: []api.Op{{Kind: api.Ref, Subs: []int{0}}}, Names: names, Roots: []int{0}},
		{Ops: []api.Op{{Kind: api.Ref, Subs: []int{api.MaxInt}}}, Names: names, Roots: []int{0}},
		{Ops: []api.Op{{Kind: api.Empty}, {Kind: api.Plus, Subs: []int{0}}}, Names: names, Roots: []int{1}},
		unused,
		left,
	}
}

// P13.1, P13.3: what is no program is told ahead of all else.
func TestNoPrograms(t *testing.T) {
	for _, p := range noPrograms(t) {
		for _, text := range []string{"", "x", strings.Repeat("x", api.MaxText+1)} {
			for _, most := range []int{-1, 0, 9, api.MaxSteps, api.MaxSteps + 1} {
				isRefused(t, p, text, most, api.ErrProgram)
			}
			for _, l := range [][]api.Span{nil, row(0, 0, 0, 0), row(0, 0, len(text), 0), row(1, 0, 0, 0), row(0, 0, 9999, 0), row(0, 0, 0, 0, 7, 0, 0, 1)} {
				isUnsaid(t, p, l, text, api.ErrProgram)
			}
		}
	}
}

// P13.1: the error is that of packrat.Accepts, in its order: arguments, the text's length, the notes.
func TestArguments(t *testing.T) {
	p := made(t, "a <- .*")
	full := strings.Repeat("x", api.MaxText)
	for _, text := range []string{"", "xy", full, full + "x"} {
		for _, most := range []int{-1, api.MaxSteps + 1, api.MinInt, api.MaxInt} {
			isRefused(t, p, text, most, api.ErrArg)
		}
	}
	for _, most := range []int{0, 1, api.MaxSteps} {
		isRefused(t, p, full+"x", most, api.ErrLong)
		isRefused(t, p, full+full, most, api.ErrLong)
	}
	has(t, p, full, row(0, 0, api.MaxText, 0))
	isRefused(t, p, "", 0, api.ErrBudget)
	isRefused(t, p, "", 1, api.ErrBudget)
	has(t, p, "", row(0, 0, 0, 0))
}

// P13.1: each number of notes, from none on; too few are told whether or not the text is accepted.
func TestEachBudget(t *testing.T) {
	p := made(t, sums)
	for _, text := range []string{"(1+2)+34", "(1+2)+"} {
		is, count, err := packrat.Accepts(p, text, api.MaxSteps)
		if err != nil {
			t.Fatal(err)
		}
		for most := range count {
			isRefused(t, p, text, most, api.ErrBudget)
		}
		for most := count; most < count+20; most++ {
			if l, got, err := Tree(p, text, most); got != is || err != nil || (len(l) > 0) != is {
				t.Error(text, most, l, got, err)
			}
		}
	}
}

// P13.1, P13.6: as many spans as may be, and one more, beside each other.
func TestMostSpans(t *testing.T) {
	p := made(t, "a <- b* 'y'? b <- 'x'")
	text := strings.Repeat("x", api.MaxSpans-1)
	want := row(0, 0, len(text), 0)
	for i := range len(text) {
		want = append(want, api.Span{Rule: 1, From: i, To: i + 1, Deep: 1})
	}
	has(t, p, text, want)
	isRefused(t, p, text+"x", api.MaxSteps, api.ErrBudget)
	// What is not accepted has none, however many it would have: here the start ends ahead of the text's end.
	hasNone(t, made(t, "a <- (b b)* b <- 'x' / 'z'"), strings.Repeat("x", api.MaxText-1), api.MaxSteps)
	hasNone(t, made(t, "a <- b* 'y' b <- 'x'"), strings.Repeat("x", api.MaxText), api.MaxSteps)
	// Nor do those count that are looked ahead at, or fail.
	has(t, made(t, "a <- &b b? 'x'* b <- c* 'y' / 'x'* [] / &'x' c <- 'x'"), strings.Repeat("x", api.MaxText), row(0, 0, api.MaxText, 0, 1, 0, 0, 1))
}

// P13.1: as many spans as may be, and one more, each within the one ahead; there is always a bound to what waits (W1).
func TestDeepestSpans(t *testing.T) {
	for _, source := range []string{"a <- 'x' a / ()", "a <- 'x' ((((((((a)?)?)?)?)?)?)?)? / ()", "a <- ('x' a)?"} {
		p := made(t, source)
		text := strings.Repeat("x", api.MaxSpans-1)
		var want []api.Span
		for i := range api.MaxSpans {
			want = append(want, api.Span{From: i, To: len(text), Deep: i})
		}
		has(t, p, text, want)
		isRefused(t, p, text+"x", api.MaxSteps, api.ErrBudget)
	}
}

// doubled is a program of a start, of so many rules of which each is the next one twice, and of a last one that is nothing.
func doubled(t *testing.T, start string, count int) api.Program {
	t.Helper()
	source := "s <- " + start + "\n"
	for i := range count {
		source += name(i) + " <- " + name(i+1) + " " + name(i+1) + "\n"
	}
	return made(t, source+name(count)+" <- ()")
}

// P13.1: spans that double with each rule, up to as many as may be, one more, and more than could ever be counted.
func TestDoubledSpans(t *testing.T) {
	// The start, and twelve rows of 1, 2, 4 and so on up to 2048.
	l, is, err := Tree(doubled(t, "r0", 11), "", api.MaxSteps)
	if len(l) != api.MaxSpans || !is || err != nil || !Right(l) {
		t.Error(len(l), is, err)
	}
	for i, s := range l {
		if s.From != 0 || s.To != 0 || s.Rule != s.Deep || i > 0 && s.Deep == 0 {
			t.Fatal(i, s)
		}
	}
	isRefused(t, doubled(t, "r0 r11", 11), "", api.MaxSteps, api.ErrBudget)
	isRefused(t, doubled(t, "r11 r0", 11), "", api.MaxSteps, api.ErrBudget)
	for _, count := range []int{12, 13, 30, 62} {
		isRefused(t, doubled(t, "r0", count), "", api.MaxSteps, api.ErrBudget)
		hasNone(t, doubled(t, "r0", count), "x", api.MaxSteps)
		has(t, doubled(t, "&r0 !(r0 .)", count), "", row(0, 0, 0, 0))
	}
}

// P13.1: many spans at each place of the longest text: no more are looked for than may be (W1).
func TestManySpansAtEachPlace(t *testing.T) {
	body := strings.Repeat("b ", 2000)
	isRefused(t, made(t, "a <- ("+body+"'x')* b <- ()"), strings.Repeat("x", api.MaxText), api.MaxSteps, api.ErrBudget)
	isRefused(t, made(t, "a <- ('x' "+body+")+ b <- c c c <- ''"), strings.Repeat("x", api.MaxText), api.MaxSteps, api.ErrBudget)
	l, is, err := Tree(made(t, "a <- ("+body+"'x')* b <- ()"), "xx", api.MaxSteps)
	if len(l) != 4001 || !is || err != nil || l[2000] != (api.Span{Rule: 1, Deep: 1}) || l[2001] != (api.Span{Rule: 1, From: 1, To: 1, Deep: 1}) {
		t.Error(len(l), is, err)
	}
	isRefused(t, made(t, "a <- ("+body+"'x')* b <- ()"), "xxx", api.MaxSteps, api.ErrBudget)
}

// P13.1: what is gone through without a span takes no more than its time: long rows at each place.
func TestLongRows(t *testing.T) {
	p := made(t, "a <- ("+strings.Repeat("() ", 2000)+"'x')* b b <- ()")
	has(t, p, strings.Repeat("x", api.MaxText), row(0, 0, api.MaxText, 0, 1, api.MaxText, api.MaxText, 1))
}

// P13.4: what is answered is new memory, its spare room too.
func TestAnswersAreNew(t *testing.T) {
	p := made(t, sums)
	first, _, _ := Tree(p, "1+23", 1000)
	second, _, _ := Tree(p, "1+23", 1000)
	first = first[:cap(first)]
	for i := range first {
		first[i] = api.Span{Rule: 9, From: 9, To: 9, Deep: 9}
	}
	want := row(0, 0, 4, 0, 1, 0, 4, 1, 2, 0, 1, 2, 2, 2, 4, 2)
	if !slices.Equal(second, want) {
		t.Error(second)
	}
	has(t, p, "1+23", want)
}

// roomy is a program whose lists have spare room, with something in it.
func roomy() api.Program {
	subs := append(make([]int, 0, 5), 1, 2)
	_ = append(subs, 7, -1)
	ops := append(make([]api.Op, 0, 6), api.Op{Kind: api.Lit, Text: "x"}, api.Op{Kind: api.Star, Subs: []int{0}}, api.Op{Kind: api.Ref, Subs: []int{1}}, api.Op{Kind: api.Seq, Subs: subs}, api.Op{Kind: api.Lit, Text: "y"})
	_ = append(ops, api.Op{Kind: 99, Text: "z"})
	names := append(make([]string, 0, 4), "a", "b")
	_ = append(names, "c")
	roots := append(make([]int, 0, 4), 3, 4)
	_ = append(roots, 9, 8)
	return api.Program{Ops: ops, Names: names, Roots: roots}
}

// whole tells all of a program, the spare room of its lists too.
func whole(p api.Program) string {
	out := fmt.Sprintf("%q %d %d %d %d", p.Names[:cap(p.Names)], p.Roots[:cap(p.Roots)], len(p.Ops), len(p.Names), len(p.Roots))
	for _, op := range p.Ops[:cap(p.Ops)] {
		out += fmt.Sprintf(" %d %q %d %d %d", op.Kind, op.Text, op.Class, op.Subs[:cap(op.Subs)], len(op.Subs))
	}
	return out
}

// P13.4: what is handed in, its spare room too, is as it was, whatever is answered.
func TestNothingIsChanged(t *testing.T) {
	p := roomy()
	l := append(make([]api.Span, 0, 9), row(0, 0, 3, 0, 1, 2, 3, 1, 1, 3, 3, 1)...)
	_ = append(l, row(5, 6, 7, 8)...)
	was, spans := whole(p), slices.Clone(l[:cap(l)])
	for _, text := range []string{"xxy", "xx", "", strings.Repeat("x", api.MaxText+1)} {
		for _, most := range []int{-1, 0, 6, 7, 100} {
			Tree(p, text, most)
		}
		for n := range 5 {
			Right(l[:n])
			Text(p, l[:n], text)
		}
	}
	if whole(p) != was || !slices.Equal(l[:cap(l)], spans) {
		t.Error(whole(p), l[:cap(l)])
	}
	has(t, p, "xxy", row(0, 0, 3, 0, 1, 2, 3, 1))
	says(t, p, l, "xxy", "a 'xxy'\n\tb 'y'\n\tb ''\n")
}

// P13.4: nothing is kept: what was changed since is told as it is now.
func TestNothingIsKept(t *testing.T) {
	p, same := roomy(), roomy()
	has(t, p, "xxy", row(0, 0, 3, 0, 1, 2, 3, 1))
	p.Ops[0].Text, p.Ops[4].Text, p.Names[1] = "xx", "z", "d"
	hasNone(t, p, "xxy", 100)
	has(t, p, "xxz", row(0, 0, 3, 0, 1, 2, 3, 1))
	l := row(0, 0, 3, 0, 1, 2, 3, 1)
	says(t, p, l, "xxz", "a 'xxz'\n\td 'z'\n")
	says(t, same, l, "xxz", "a 'xxz'\n\tb 'z'\n")
	p.Ops[0].Text = ""
	isRefused(t, p, "z", 100, api.ErrProgram)
	isUnsaid(t, p, l, "xxz", api.ErrProgram)
	l[1].From = 4
	isUnsaid(t, same, l, "xxz", api.ErrArg)
	has(t, same, "xxy", row(0, 0, 3, 0, 1, 2, 3, 1))
}

// P13.1, P13.3, with W5: lists that are empty are as good as none.
func TestEmptyLists(t *testing.T) {
	p := api.Program{Ops: []api.Op{{Kind: api.Lit, Text: "x", Subs: []int{}}}, Names: []string{"a"}, Roots: []int{0}}
	has(t, p, "x", row(0, 0, 1, 0))
	isUnsaid(t, p, []api.Span{}, "x", api.ErrArg)
	isUnsaid(t, p, nil, "x", api.ErrArg)
	isRefused(t, api.Program{Ops: []api.Op{}, Names: []string{}, Roots: []int{}}, "", 9, api.ErrProgram)
}

// P13.1, P13.3, with W2: calls at one time, of one program, know nothing of each other.
func TestCallsAtOneTime(t *testing.T) {
	p := made(t, sums)
	var group sync.WaitGroup
	for i := range 12 {
		text := strings.Repeat("(", i) + "1" + strings.Repeat(")", i)
		group.Go(func() {
			for range 20 {
				l, is, err := Tree(p, text, api.MaxSteps)
				if len(l) != 3+2*i || !is || err != nil || l[len(l)-1].Deep != 2+2*i {
					t.Error(text, l, is, err)
				}
				if s, err := Text(p, l, text); err != nil || strings.Count(s, "\n") != len(l) || !strings.HasPrefix(s, "s '"+text+"'\n\te") {
					t.Error(s, err)
				}
			}
		})
	}
	group.Wait()
}
