package compat

import (
	"fmt"
	"strconv"
	"strings"
	"testing"

	"muntin/api"
	"muntin/code"
	"muntin/printer"
	"muntin/syntax"
)

func ref(s string) api.Node                    { return api.Node{Kind: api.Ref, Text: s} }
func lit(s string) api.Node                    { return api.Node{Kind: api.Lit, Text: s} }
func bare(kind int) api.Node                   { return api.Node{Kind: kind} }
func over(kind int, subs ...api.Node) api.Node { return api.Node{Kind: kind, Subs: subs} }
func ruled(rules ...api.Rule) api.Grammar      { return api.Grammar{Rules: rules} }

// name is one of a rule, for each place another one.
func name(place int) string { return "r" + strconv.Itoa(place) }

// parsed is the grammar of a source.
func parsed(t testing.TB, s string) api.Grammar {
	t.Helper()
	g, err := syntax.Parse(s)
	if err != nil {
		t.Fatal(s, err)
	}
	return g
}

// program is that of a grammar.
func program(t testing.TB, g api.Grammar) api.Program {
	t.Helper()
	p, err := code.Make(g)
	if err != nil {
		t.Fatal(g, err)
	}
	return p
}

// made is the program of a source.
func made(t testing.TB, s string) api.Program {
	t.Helper()
	return program(t, parsed(t, s))
}

// shown is the text of a program's grammar, as much of it as is worth telling; of what is none, its numbers.
func shown(p api.Program) string {
	text := fmt.Sprint(p)
	if g, err := code.Grammar(p); err == nil {
		text, _ = printer.Print(g)
	}
	return text[:min(len(text), 300)]
}

// follows holds Gate and Same to their answers.
func follows(t *testing.T, old, new api.Program, gate, same bool) {
	t.Helper()
	if is, err := Gate(old, new); is != gate || err != nil {
		t.Errorf("gate of %s to %s: %v %v, not %v", shown(old), shown(new), is, err, gate)
	}
	if is, err := Same(old, new); is != same || err != nil {
		t.Errorf("same of %s to %s: %v %v, not %v", shown(old), shown(new), is, err, same)
	}
}

// counts holds Pairs to its answers.
func counts(t *testing.T, old, new api.Program, extend, same int) {
	t.Helper()
	if n, m, err := Pairs(old, new); n != extend || m != same || err != nil {
		t.Errorf("%s to %s: %d %d %v, not %d %d", shown(old), shown(new), n, m, err, extend, same)
	}
}

// isRefused holds all calls to ErrProgram, with nothing beside it.
func isRefused(t *testing.T, old, new api.Program) {
	t.Helper()
	if is, err := Gate(old, new); is || err != api.ErrProgram {
		t.Error(shown(old), shown(new), is, err)
	}
	if is, err := Same(old, new); is || err != api.ErrProgram {
		t.Error(shown(old), shown(new), is, err)
	}
	if n, m, err := Pairs(old, new); n != 0 || m != 0 || err != api.ErrProgram {
		t.Error(shown(old), shown(new), n, m, err)
	}
}

// P15.1
func TestExamplesOfTheChapter(t *testing.T) {
	for _, x := range []struct {
		old, new string
		gate     bool
	}{
		{"a <- ('x' / 'y') !.", "a <- ('x' / 'y' / 'z') !.", true}, {"a <- ('x' / 'y' / 'z') !.", "a <- ('x' / 'y') !.", false},
		{"a <- 'x' b !. b <- 'y'", "a <- [xy] b? !. b <- 'y'", true},
		{"a <- 'x'* !.", "a <- 'x'* 'y'? !.", false}, {"a <- 'x'+ !.", "a <- 'x'* !.", true}, {"a <- 'x'?", "a <- [xy]?", false},
	} {
		follows(t, made(t, x.old), made(t, x.new), x.gate, false)
	}
}

// What is seen of two starts, both ways.
const (
	neither = iota
	onward  // the newer one extends the older one
	mutual  // each extends the other one
	alike   // they are the same
)

// checkStarts holds two starts to what is seen of them; both have some rules behind them.
func checkStarts(t *testing.T, old, new string, want int) {
	t.Helper()
	const rules = " b <- 'x' / 'y' c <- 'x' / 'y' d <- c e <- 'x'? f <- 'x' g g <- 'x' f"
	p, q := made(t, "a <- "+old+rules), made(t, "a <- "+new+rules)
	follows(t, p, q, want != neither, want == alike)
	follows(t, q, p, want == mutual || want == alike, want == alike)
	// What is the same is so one rule farther on, too.
	for _, pair := range [][2]api.Program{{made(t, "s <- a a <- "+old+rules), q}, {p, made(t, "s <- a a <- "+new+rules)}} {
		if is, err := Same(pair[0], pair[1]); is != (want == alike) || err != nil {
			t.Error(shown(pair[0]), shown(pair[1]), is, err)
		}
	}
}

// P15.1: each kind, with others of its own.
func TestKinds(t *testing.T) {
	for _, x := range []struct {
		old, new string
		want     int
	}{
		{"()", "()", alike}, {"()", "''", neither}, {"''", "''", alike}, {"''", "'x'", neither}, {"()", ".", neither},
		{"'x'", "'x'", alike}, {"'x'", "'y'", neither}, {"'xy'", "'xy'", alike}, {"'xy'", "'xz'", neither}, {"'xy'", "'xyz'", neither}, {"'x'", "'xy'", neither}, {"'xy'", "'x' 'y'", neither},
		{"[xy]", "[xy]", alike}, {"[xy]", "[yx]", alike}, {"[x]", "[xy]", onward}, {"[xy]", "[xz]", neither}, {"[]", "[]", alike}, {"[]", "[x]", onward}, {"[^x]", "[^]", onward},
		{".", ".", alike},
		{"b", "b", alike}, {"b", "c", alike}, {"b", "d", alike}, {"d", "b", alike}, {"d", "d", alike}, {"b", "e", neither}, {"f", "g", alike}, {"f", "b", neither},
		{"'x' 'y'", "'x' 'y'", alike}, {"'x' 'y'", "[xy] 'y'", onward}, {"'x' 'y'", "'x' [xy]", onward}, {"'x' 'y'", "[xy] [xy]", onward}, {"'x' [xy]", "[xy] 'x'", neither}, {"'x' 'y'", "'x' 'x'", neither}, {"'x' 'y'", "'y' 'x'", neither},
		{"'x' 'y'", "'x' 'y' 'z'", neither}, {"'x' 'y'", "'x' 'y' 'z'?", neither}, {"'x' 'y'", "'x' 'y' ()", neither}, {"'x' 'y' 'z'", "'x' ('y' 'z')", neither}, {"'x' 'y'", "('x' 'y') 'z'", neither},
		{"'x' / 'y'", "'x' / 'y'", alike}, {"'x' / 'y'", "'x' / 'y' / 'z'", onward}, {"'x' / 'y'", "'x' / 'y' / 'z' / 'w' / 'v'", onward}, {"'x' / 'y'", "'y' / 'x'", neither}, {"'x' / 'y'", "'z' / 'x' / 'y'", neither}, {"'x' / 'y'", "'x' / 'z' / 'y'", neither},
		{"'x' / 'y'", "'x' / [yz]", onward}, {"'x' / 'y'", "'x' / [yz] / 'z'", onward}, {"'x' / 'y'", "[xz] / 'y'", neither}, {"'x' / 'y'", "[xz] / 'y' / 'z'", neither}, {"'x' / 'y' / 'z'", "'x' / 'y' / [zw] / 'v'", onward}, {"'x' / 'y' / 'z'", "'x' / [yz] / 'z'", neither},
		{"'x' / [y]", "'x' / 'y'", mutual}, {"[x] / 'y'", "'x' / 'y'", neither}, {"'x' / 'y' / 'z'", "'x' / ('y' / 'z')", neither}, {"'x' / 'y'", "'x' / ('y' / 'z')", onward}, {"'x' / 'y'", "('x' / 'y') / 'z'", neither},
		{"'x'?", "'x'?", alike}, {"'x'?", "'y'?", neither}, {"'x'?", "[xy]?", neither}, {"'x'?", "('x'?)?", onward}, {"('x'?)?", "(('x'?)?)?", onward},
		{"'x'*", "'x'*", alike}, {"'x'*", "[xy]*", neither}, {"'x'*", "'y'*", neither}, {"'x'*", "[x]*", neither},
		{"'x'+", "'x'+", alike}, {"'x'+", "[xy]+", neither}, {"'x'+", "'y'+", neither}, {"('x'+)+", "'x'+", neither},
		{"&'x'", "&'x'", alike}, {"&'x'", "&[xy]", onward}, {"&'x'", "&'y'", neither}, {"&(&'x')", "&(&[xy])", onward}, {"&(&'x')", "&'x'", neither},
		{"!'x'", "!'x'", alike}, {"!'x'", "![xy]", neither}, {"!'x'", "![x]", neither}, {"!'x'", "!'y'", neither}, {"!(!'x')", "!(![xy])", neither},
	} {
		checkStarts(t, x.old, x.new, x.want)
	}
}

// P15.1: each kind, with those of other kinds.
func TestKindsOfTwoSorts(t *testing.T) {
	for _, x := range []struct {
		old, new string
		want     int
	}{
		// Singles are told by the bytes that they take.
		{"'x'", "[x]", mutual}, {"'x'", "[xy]", onward}, {"'x'", "[y]", neither}, {"'x'", "[^y]", onward}, {"'x'", ".", onward}, {"[x-z]", ".", onward}, {"[^]", ".", mutual}, {"[]", "'x'", onward}, {"[]", ".", onward},
		{"'\\x00'", "[\\x00-\\x01]", onward}, {"'\\xff'", "[^x]", onward}, {"'x'", "[^x]", neither}, {"'\\x00'", "[\\x01-\\xff]", neither},
		{"'xy'", "[xy]", neither}, {"'xy'", ".", neither}, {"''", ".", neither}, {"''", "[]", neither}, {"[]", "'xy'", neither}, {"[]", "''", neither}, {"[]", "()", neither}, {"[]", "!.", neither},
		// A choice is more than what its first part is more than.
		{"'x'", "'x' / 'y'", onward}, {"'x'", "'x' / 'x'", onward}, {"'x'", "'y' / 'x'", neither}, {"'x'", "[xy] / 'z'", onward}, {"'x'", "('x' / 'y') / 'z'", onward}, {"'x' 'y'", "'x' . / 'z'", onward}, {"()", "() / 'x'", onward}, {"'x'?", "'x'? / 'y'", onward}, {"'x'+", "'x'* / 'y'", onward}, {"!'x'", "!'x' / 'y'", onward}, {"!'x'", "!'y' / !'x'", neither}, {"'x'", "b / 'z'", onward}, {"'x'", "d / 'z'", onward},
		{"'x' / 'y'", "[xy]", neither}, {"'x' / 'y'", ".", neither},
		// Also than a rule that is no choice by itself, and one that is.
		{"e", "e / 'y'", onward}, {"b", "b / 'z'", onward}, {"d", "b / 'z'", onward}, {"b", "d / 'z'", onward}, {"b", "(d / 'z') / 'w'", onward}, {"b", "'x' / b", neither}, {"b", "'x' / 'y' / 'z'", onward}, {"b", "'x' / b / 'z'", neither}, {"'x' / 'y'", "b / 'z'", neither},
		// An Opt is more than what its part is more than.
		{"'x'", "'x'?", onward}, {"'x'", "[xy]?", onward}, {"'x'", "'y'?", neither}, {"'x'", "('x' / 'y')?", onward}, {"'x' / 'y'", "('x' / 'y' / 'z')?", onward}, {"'x' 'y'", "('x' .)?", onward}, {"'x'", "(('x'?)?)?", onward}, {"'x'+", "('x'*)?", onward}, {"'x'*", "('x'*)?", onward}, {"!'x'", "(!'x')?", onward}, {"()", "()?", onward}, {"()", "'x'?", neither}, {"'x'", "e", onward}, {"'x'", "e?", onward},
		{"b", "b?", onward}, {"b", "c?", onward}, {"d", "b?", onward}, {"e", "e?", onward}, {"b", "('x' / 'y')?", onward}, {"b", "('x' / 'y' / 'z')?", onward}, {"'x' / 'y'", "b?", onward}, {"'x' / 'y'", "d?", onward},
		// But an Opt is more than a Ref only if it is more than what that stands for.
		{"b", "(b / 'z')?", neither}, {"b", "((b / 'z')?)?", neither}, {"b", "(b / 'z')? / 'w'", neither}, {"b", "b? / 'w'", onward}, {"'x'? 'z'", "(e / 'y') 'z'", onward}, {"e", "(e / 'y')?", onward},
		// Repetitions.
		{"'x'+", "'x'*", onward}, {"'x'+", "[x]*", neither}, {"'x'+", "[xy]*", neither}, {"'x'+", "'y'*", neither}, {"b+", "b*", onward}, {"b+", "('x' / 'y')*", onward}, {"('x' / 'y')+", "d*", onward}, {"b+", "('x' / 'y' / 'z')*", neither}, {"'x'", "'x'*", neither}, {"'x'", "'x'+", neither}, {"'x'?", "'x'*", neither}, {"('x'+)?", "'x'*", neither},
		// Looks ahead.
		{"&'x'", "!'x'", neither}, {"&'x'", "!(!'x')", neither}, {"&'x'", "'x'", neither}, {"&'x'", "()", neither}, {"&b", "&d", alike}, {"!b", "!d", alike}, {"&b", "&('x' / 'y' / 'z')", onward}, {"&'x'", "&b", onward}, {"!b", "!'x'", neither},
		// Parts of each other, and none.
		{"'x'", "'x' 'y'", neither}, {"'x'", "'x' ()", neither}, {"'x'", "() 'x'", neither},
	} {
		checkStarts(t, x.old, x.new, x.want)
	}
}

// P15.1: a Ref is no Alt: a choice that begins with it is more than it, as it stands there; of its root that may not hold.
func TestRefsAreNoAlts(t *testing.T) {
	for _, x := range []struct {
		old, new string
		want     int
	}{
		{"a <- b b <- 'x' / 'y'", "a <- b / 'z' b <- 'x' / 'y'", onward},
		{"a <- 'x' / 'y'", "a <- b / 'z' b <- 'x' / 'y'", neither},
		{"a <- b b <- 'x' / 'y'", "s <- a a <- b / 'z' b <- 'x' / 'y'", neither},
		{"a <- b b <- 'x'", "s <- a a <- b / 'z' b <- 'x'", onward},
		{"a <- (b) !. b <- 'x' / 'y'", "a <- (b / 'z') !. b <- 'x' / 'y'", onward},
		{"a <- b c b <- 'x' / 'y' c <- b", "a <- (c / 'w') (b / 'z') b <- 'x' / 'y' c <- b", onward},
		{"a <- (b / 'z') !. b <- 'x' / 'y'", "a <- (b / 'z' / 'w') !. b <- 'x' / 'y'", onward},
		{"a <- b b <- 'x' / 'y'", "a <- b / 'z' b <- 'x' / 'y' / 'w'", onward},
		{"a <- b b <- 'x' / 'y'", "a <- b / 'z' b <- 'y' / 'x'", neither},
	} {
		follows(t, made(t, x.old), made(t, x.new), x.want != neither, false)
		follows(t, made(t, x.new), made(t, x.old), false, false)
	}
}

// P15.1: the greatest relations: rules that come to themselves again are held to have no end.
func TestRulesThatComeToThemselves(t *testing.T) {
	for _, x := range []struct {
		old, new string
		want     int
	}{
		{"a <- 'x' a", "b <- 'x' b", alike},
		{"a <- 'x' a / 'y'", "b <- 'x' c / 'y' c <- 'x' b / 'y'", alike},
		{"a <- 'x' b b <- 'x' c c <- 'x' a", "a <- 'x' b b <- 'x' a", alike},
		{"a <- 'x' b b <- 'x' c c <- 'x' a", "a <- 'x' b b <- [xy] a", onward},
		{"a <- 'x' b b <- 'x' c c <- 'y' a", "a <- 'x' b b <- [xy] a", neither},
		{"a <- 'x' b b <- 'x' c c <- 'y' a", "a <- [xy] b b <- [xy] a", onward},
		{"a <- 'x' b b <- 'y' a", "a <- 'x' b b <- 'x' a", neither},
		{"a <- 'y' / 'x' a", "a <- 'y' / 'x' a / 'z'", onward},
		{"a <- 'y' / 'x' a", "a <- 'y' / [xz] a / 'z'", onward},
		{"a <- 'x' a / 'y'", "a <- 'x' a / 'y' / 'z'", neither},
		{"a <- 'x' a / 'y'", "a <- 'x' a / [yz]", neither},
		{"a <- ('x' a)?", "a <- ('x' a)?", alike},
		{"a <- ('x' a)?", "a <- (('x' a)?)?", neither},
		{"a <- 'x' a", "a <- ('x' a)? / 'y'", onward},
		{"a <- 'x' a", "a <- ('x' a)?", onward},
		{"a <- ('x' a)?", "a <- ([xy] a)?", neither},
		{"a <- !('x' a) .", "a <- !('x' b) . b <- !('x' a) .", alike},
		{"a <- !('x' a) .", "a <- !('x' b) . b <- !('x' a) . / 'y'", neither},
		{"a <- 'x' (b c)* b <- 'y' a / 'z' c <- 'z'", "a <- 'x' (b d)* b <- 'y' c / 'z' c <- 'x' (b d)* d <- e e <- 'z'", alike},
	} {
		p, q := made(t, x.old), made(t, x.new)
		follows(t, p, q, x.want != neither, x.want == alike)
		follows(t, q, p, x.want == mutual || x.want == alike, x.want == alike)
	}
}

// P15.1: it is the starts that are held against each other, whatever else there is, and whatever the names are.
func TestStartsAlone(t *testing.T) {
	p := made(t, "a <- 'x' b <- 'y'")
	for _, s := range []string{"a <- 'x'", "b <- 'x'", "b <- 'x' a <- 'z'", "a <- b b <- 'x'", "x1 <- x2 x3 <- 'y' x2 <- x4 x4 <- 'x'"} {
		follows(t, p, made(t, s), true, true)
		follows(t, made(t, s), p, true, true)
	}
	for _, s := range []string{"b <- 'y' a <- 'x'", "a <- 'y' b <- 'y'", "a <- b b <- 'y'"} {
		follows(t, p, made(t, s), false, false)
		follows(t, made(t, s), p, false, false)
	}
}

// P15.2: counted by hand.
func TestPairs(t *testing.T) {
	for _, x := range []struct {
		old, new     string
		extend, same int
	}{
		{"a <- 'x'", "a <- 'x'", 1, 1}, {"a <- 'x'", "a <- 'y'", 0, 0}, {"a <- 'x'", "a <- .", 1, 0}, {"a <- .", "a <- 'x'", 0, 0},
		// Each part, and the x by the choice.
		{"a <- 'x' / 'y'", "a <- 'x' / 'y'", 4, 3},
		// x: x, the choice; y: y; the choice: the choice.
		{"a <- 'x' / 'y'", "a <- 'x' / 'y' / 'z'", 4, 2},
		// x by all of x, [xy], the choice, the Opt of that; the choice by the choice and the Opt.
		{"a <- 'x' / 'y'", "a <- ('x' / [yz])?", 6, 1},
		// A Ref is as its rule's root.
		{"a <- b b <- 'x'", "a <- b b <- 'x'", 4, 4}, {"a <- b b <- 'x'", "a <- 'x'", 2, 2}, {"a <- 'x'", "a <- b b <- c c <- 'x'", 3, 3}, {"a <- b b <- 'x'", "a <- [xy] b <- 'y'", 2, 0},
		// Same: each as itself, b as its choice, and the other way round. And the x by b, both choices; b by the choice that begins with b.
		{"a <- b / 'z' b <- 'x' / 'y'", "a <- b / 'z' b <- 'x' / 'y'", 12, 8},
		// All, and the Plus by the Star.
		{"a <- 'x'+ 'x'*", "a <- 'x'+ 'x'*", 5, 4}, {"a <- 'x'+", "a <- 'x'*", 2, 1}, {"a <- 'x'*", "a <- 'x'+", 1, 1},
		// What nothing uses counts as well; what comes to itself too: a's row and Ref, b's row and Ref, and the x.
		{"a <- 'x' b <- 'y'", "c <- 'y' d <- 'x'", 2, 2}, {"a <- 'x' a b <- 'x' b", "a <- 'x' a", 9, 9}, {"a <- 'x' a b <- 'x' b", "a <- [xy] a", 9, 0},
		// Empty, the literal without bytes, nothing.
		{"a <- () '' [] 'xy'", "a <- () '' [] 'xy'", 5, 5}, {"a <- () '' [] 'xy'", "a <- . 'q'", 2, 0},
		{"a <- &'x' !'x'", "a <- &[xy] ![xy]", 2, 0}, {"a <- &'x' !'x'", "a <- &'x' !'x'", 4, 4},
	} {
		counts(t, made(t, x.old), made(t, x.new), x.extend, x.same)
	}
}

// noPrograms are some.
func noPrograms(t *testing.T) []api.Program {
	t.Helper()
	names, star := []string{"a"}, api.Op{Kind: api.Star, Subs: []int{0}}
	dot, empty := api.Op{Kind: api.Any}, api.Op{Kind: api.Empty}
	left, unused := made(t, "a <- b / 'x' b <- 'y'"), made(t, "a <- 'x'")
	left.Ops[0].Subs[0] = 0
	unused.Ops = append(unused.Ops, dot)
	return []api.Program{
		{},
		{Names: names, Roots: []int{0}},
		{Ops: []api.Op{dot}, Names: names},
		{Ops: []api.Op{dot}, Roots: []int{0}},
		{Ops: []api.Op{dot}, Names: names, Roots: []int{1}},
		{Ops: []api.Op{dot}, Names: names, Roots: []int{-1}},
		{Ops: []api.Op{dot}, Names: names, Roots: []int{api.MinInt}},
		{Ops: []api.Op{dot}, Names: names, Roots: []int{api.MaxInt}},
		{Ops: []api.Op{dot}, Names: []string{""}, Roots: []int{0}},
		{Ops: []api.Op{dot}, Names: []string{"a", "a"}, Roots: []int{0, 0}},
		{Ops: []api.Op{dot, dot}, Names: names, Roots: []int{0}},
		{Ops: []api.Op{{}}, Names: names, Roots: []int{0}},
		{Ops: []api.Op{{Kind: 13}}, Names: names, Roots: []int{0}},
		{Ops: []api.Op{{Kind: api.Any, Text: "x"}}, Names: names, Roots: []int{0}},
		{Ops: []api.Op{star}, Names: names, Roots: []int{0}},
		{Ops: []api.Op{star, dot}, Names: names, Roots: []int{0}},
		{Ops: []api.Op{empty, star}, Names: names, Roots: []int{1}},
		{Ops: []api.Op{dot, {Kind: api.Opt}}, Names: names, Roots: []int{1}},
		{Ops: []api.Op{dot, {Kind: api.Not, Subs: []int{0, 0}}}, Names: names, Roots: []int{1}},
		{Ops: []api.Op{dot, {Kind: api.Alt, Subs: []int{0}}}, Names: names, Roots: []int{1}},
		{Ops: []api.Op{dot, {Kind: api.Alt, Subs: []int{0, 2}}}, Names: names, Roots: []int{1}},
		{Ops: []api.Op{dot, {Kind: api.Seq, Subs: []int{0, -1}}}, Names: names, Roots: []int{1}},
		{Ops: []api.Op{{Kind: api.Ref, Subs: []int{0}}}, Names: names, Roots: []int{0}},
		{Ops: []api.Op{{Kind: api.Ref, Subs: []int{1}}}, Names: names, Roots: []int{0}},
		{Ops: []api.Op{{Kind: api.Ref}}, Names: names, Roots: []int{0}},
		left,
		unused,
	}
}

// P15.1, P15.2: whichever is no program, it is told.
func TestNoPrograms(t *testing.T) {
	p := made(t, "a <- 'x' b / 'y' b <- 'z'*")
	all := noPrograms(t)
	for _, no := range all {
		if _, err := code.Grammar(no); err == nil {
			t.Fatal(no, "is a program")
		}
		isRefused(t, no, p)
		isRefused(t, p, no)
		isRefused(t, no, no)
		isRefused(t, no, all[0])
		isRefused(t, all[0], no)
	}
	follows(t, p, p, true, true)
}

// full is a program of as many operations as may be, in rows that only differ at their ends, and whose last part takes those bytes.
func full(t *testing.T, last string) api.Program {
	t.Helper()
	var source strings.Builder
	for i := range api.MaxRules {
		source.WriteString(name(i) + "<-")
		for bit := range 7 {
			source.WriteString("[" + []string{"p", "q"}[i>>bit&1] + "]")
		}
		source.WriteString(strings.Repeat(".", 40) + last + "\n")
	}
	p := made(t, source.String())
	if len(p.Ops) != api.MaxRules+4 {
		t.Fatal(len(p.Ops))
	}
	return p
}

// P15.1, P15.2, with W1: programs of the greatest sizes.
func TestGreatPrograms(t *testing.T) {
	few, many := full(t, "'x'"), full(t, "[xy]")
	follows(t, few, few, true, true)
	follows(t, few, many, true, false)
	follows(t, many, few, false, false)
	// Each row by its own, and of the four singles each by itself, and by those with more.
	counts(t, few, few, api.MaxRules+4+3, api.MaxRules+4)
	counts(t, few, many, api.MaxRules+4+3, 3)
	counts(t, many, few, 3+3, 3)
	body := over(api.Alt)
	for i := range api.MaxOps - 1 {
		body.Subs = append(body.Subs, lit(strconv.Itoa(1000+i)))
	}
	p := program(t, ruled(api.Rule{Name: "a", Body: body}))
	body.Subs[api.MaxOps-2] = over(api.Opt, body.Subs[0])
	q := program(t, ruled(api.Rule{Name: "a", Body: body}))
	if len(p.Ops) != api.MaxOps || len(q.Ops) != api.MaxOps {
		t.Fatal(len(p.Ops), len(q.Ops))
	}
	follows(t, p, p, true, true)
	follows(t, p, q, false, false)
	counts(t, p, p, api.MaxOps+1, api.MaxOps)
	// The literals but one, the first one by the choice and by the Opt.
	counts(t, p, q, api.MaxOps-2+2, api.MaxOps-2)
}

// ring is a program of rules that lead to each other in a ring: each takes one of these, but the start another one.
func ring(t *testing.T, count int, start, others string) api.Program {
	t.Helper()
	var g api.Grammar
	for i := range count {
		one := others
		if i == 0 {
			one = start
		}
		g.Rules = append(g.Rules, api.Rule{Name: name(i), Body: over(api.Seq, parsed(t, "a <- "+one).Rules[0].Body, ref(name((i+1)%count)))})
	}
	return program(t, g)
}

// P15.1, P15.2, with W1: what tells two programs apart lies as far off as may be.
func TestLongWaysRound(t *testing.T) {
	// The starts meet again after all pairs of rules: only there does the one take what the other one does not.
	p, q := ring(t, 64, "[xyz]", "'x'"), ring(t, 63, "'x'", ".")
	follows(t, p, q, false, false)
	// The x by both; the class by the dot.
	counts(t, p, q, 3, 1)
	q = ring(t, 63, "[x-z]", ".")
	follows(t, p, q, true, false)
	// All rows and Refs, with each other; the x and the class by both.
	counts(t, p, q, 128*126+4, 1)
	p, q = ring(t, 64, "'x'", "'x'"), ring(t, 63, "'x'", "'x'")
	follows(t, p, q, true, true)
	// In each: one row of an x and a Ref, for each rule.
	counts(t, p, q, 128*126+1, 128*126+1)
	follows(t, ring(t, 64, "'y'", "'x'"), ring(t, 64, "'y'", "'x'"), true, true)
	follows(t, ring(t, 64, "'y'", "'x'"), ring(t, 63, "'y'", "'x'"), false, false)
	follows(t, ring(t, 64, "'y'", "'x'"), ring(t, 32, "'y'", "'x'"), false, false)
}

// chained is a program of rules each of which is a Ref of the next one, down to a body.
func chained(t *testing.T, count int, body string) api.Program {
	t.Helper()
	var source strings.Builder
	for i := range count - 1 {
		source.WriteString(name(i) + "<-" + name(i+1) + "\n")
	}
	return made(t, source.String()+name(count-1)+"<-"+body)
}

// P15.1, P15.2: Refs of Refs, as many as may be.
func TestChainsOfRefs(t *testing.T) {
	p, q := chained(t, 64, "'x'"), chained(t, 63, "[xy]")
	follows(t, p, p, true, true)
	follows(t, p, q, true, false)
	follows(t, q, p, false, false)
	counts(t, p, p, 64*64, 64*64)
	counts(t, p, q, 64*63, 0)
	counts(t, q, p, 0, 0)
	follows(t, p, made(t, "a <- 'x'"), true, true)
	follows(t, made(t, "a <- 'x'"), p, true, true)
}

// P15.5: a choice in parentheses and `!.`, with one more alternative at its end; more rules behind the others.
func TestNoEmptyGate(t *testing.T) {
	const rules = " b <- 'x' c? / !'y' d c <- &b 'z'? d <- [x-z]+ b / 'y'"
	const more = " f <- b c / g? g <- 'w' f"
	for _, choice := range []string{
		"'x' / 'y'", "b / c", "b c / d b", "'x' / 'x'", "() / 'x'", "b / ('x' / 'y')", "('x' / 'y') / 'z'", "'x'? / b* / 'y'+ / !'z' / &c / [] / .", "'y' / 'x' a", "b / !. / c c c",
	} {
		p := made(t, "a <- ("+choice+") !."+rules)
		follows(t, p, p, true, true)
		follows(t, p, made(t, "a <- ("+choice+") !."+rules+more), true, true)
		for _, part := range []string{"'v'", "b", "'x'", "()", "[]", "d d", "f"} {
			follows(t, p, made(t, "a <- ("+choice+" / "+part+") !."+rules+more), true, false)
			follows(t, p, made(t, "a <- ("+choice+" / "+part+" / "+part+") !."+rules+more), true, false)
		}
	}
}

// P15.1 rather than P15.5: where the start comes to itself again in a part but the last one, that part is not the same any more.
func TestStartsThatUseThemselves(t *testing.T) {
	for _, x := range []struct {
		old, new string
		gate     bool
	}{
		{"'x' a / 'y'", "'x' a / 'y' / 'z'", false}, {"'y' / 'x' a", "'y' / 'x' a / 'z'", true}, {"'y' / 'x' !a", "'y' / 'x' !a / 'z'", false}, {"'y' / 'z' a?", "'y' / 'z' a? / 'z'", false}, {"'y' / 'z' &a", "'y' / 'z' &a / 'z'", true},
	} {
		follows(t, made(t, "a <- ("+x.old+") !."), made(t, "a <- ("+x.new+") !."), x.gate, false)
	}
}

// P15.6: what lets two steps follow one another does not let both follow at once.
func TestTwoStepsAtOnce(t *testing.T) {
	p, q, r := made(t, "a <- 'x' / 'y'"), made(t, "a <- ('x' / 'y')?"), made(t, "a <- ('x' / 'y')? / 'z'")
	follows(t, p, q, true, false)
	follows(t, q, r, true, false)
	follows(t, p, r, false, false)
	// Of others it does.
	follows(t, made(t, "a <- 'x' / 'y'"), made(t, "a <- 'x' / [yz] / 'w'"), true, false)
	follows(t, made(t, "a <- 'x' / [yz] / 'w'"), made(t, "a <- 'x' / . / [wv] / 'v'"), false, false)
	follows(t, made(t, "a <- 'x' / [yz] / 'w'"), made(t, "a <- 'x' / [yz] / [wv] / 'v'"), true, false)
	follows(t, made(t, "a <- 'x' / 'y'"), made(t, "a <- 'x' / [yz] / [wv] / 'v'"), true, false)
}
