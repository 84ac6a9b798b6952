package code

import (
	"fmt"
	"runtime"
	"slices"
	"strconv"
	"strings"
	"sync"
	"testing"

	"muntin/api"
	"muntin/class"
	"muntin/lex"
	"muntin/printer"
	"muntin/sound"
	"muntin/syntax"
)

// sums is a grammar of which most things stand more than once.
const sums = "s <- e !. e <- t ('+' t)* t <- [0-9]+ / '(' e ')'"

func ref(s string) api.Node                    { return api.Node{Kind: api.Ref, Text: s} }
func lit(s string) api.Node                    { return api.Node{Kind: api.Lit, Text: s} }
func bare(kind int) api.Node                   { return api.Node{Kind: kind} }
func over(kind int, subs ...api.Node) api.Node { return api.Node{Kind: kind, Subs: subs} }
func ruled(rules ...api.Rule) api.Grammar      { return api.Grammar{Rules: rules} }
func op(kind int, subs ...int) api.Op          { return api.Op{Kind: kind, Subs: subs} }
func litOp(s string) api.Op                    { return api.Op{Kind: api.Lit, Text: s} }

// one is a program of one rule, whose root is the last operation.
func one(ops ...api.Op) api.Program {
	return api.Program{Names: []string{"a"}, Roots: []int{len(ops) - 1}, Ops: ops}
}

// name is one of a rule, for each place another one.
func name(place int) string { return "r" + strconv.Itoa(place) }

// parsed is the tree of a source.
func parsed(t testing.TB, s string) api.Grammar {
	t.Helper()
	g, err := syntax.Parse(s)
	if err != nil {
		t.Fatal(s, err)
	}
	return g
}

// made is the program of a source.
func made(t testing.TB, s string) api.Program {
	t.Helper()
	p, err := Make(parsed(t, s))
	if err != nil {
		t.Fatal(s, err)
	}
	return p
}

// kindName is how a kind is told.
func kindName(kind int) string {
	names := []string{"Empty", "Lit", "Set", "Any", "Ref", "Seq", "Alt", "Opt", "Star", "Plus", "And", "Not"}
	if kind < 1 || kind > len(names) {
		return "kind " + strconv.Itoa(kind)
	}
	return names[kind-1]
}

// toldOp is an operation with all that is in it; what its kind does not have is told only if it is there.
func toldOp(o api.Op) string {
	out := kindName(o.Kind)
	if o.Text != "" || o.Kind == api.Lit {
		out += lex.Quote(o.Text)
	}
	if o.Class != (api.Class{}) || o.Kind == api.Set {
		out += class.Text(o.Class)
	}
	for _, sub := range o.Subs {
		out += " " + strconv.Itoa(sub)
	}
	return out
}

// told is a program with all that is in it.
func told(p api.Program) string {
	var out []string
	for _, o := range p.Ops {
		out = append(out, toldOp(o))
	}
	return strings.Join(out, ", ") + "; " + strings.Join(p.Names, " ") + "; " + strings.Trim(fmt.Sprint(p.Roots), "[]")
}

// short is as much of a program as is worth telling.
func short(p api.Program) string {
	text := told(p)
	return text[:min(len(text), 300)]
}

// drawnNode is a node with all that is in it.
func drawnNode(n api.Node) string {
	out := toldOp(api.Op{Kind: n.Kind, Text: n.Text, Class: n.Class}) + "@" + strconv.Itoa(n.At)
	for _, sub := range n.Subs {
		out += "(" + drawnNode(sub) + ")"
	}
	return out
}

// drawn is a grammar with all that is in it.
func drawn(g api.Grammar) string {
	out := ""
	for _, rule := range g.Rules {
		out += rule.Name + "@" + strconv.Itoa(rule.At) + ": " + drawnNode(rule.Body) + "; "
	}
	return out
}

// placeless is a grammar in other memory, all At 0.
func placeless(g api.Grammar) api.Grammar {
	var out api.Grammar
	for _, rule := range g.Rules {
		out.Rules = append(out.Rules, api.Rule{Name: rule.Name, Body: placelessNode(rule.Body)})
	}
	return out
}

func placelessNode(n api.Node) api.Node {
	out := api.Node{Kind: n.Kind, Text: n.Text, Class: n.Class}
	for _, sub := range n.Subs {
		out.Subs = append(out.Subs, placelessNode(sub))
	}
	return out
}

// isProgram holds all calls to a program and its grammar, there and back.
func isProgram(t *testing.T, g api.Grammar, want api.Program) {
	t.Helper()
	p, err := Make(g)
	if err != nil || told(p) != told(want) {
		t.Fatalf("%.200s: %s %v, not %s", drawn(g), short(p), err, short(want))
	}
	back, err := Grammar(p)
	if err != nil || drawn(back) != drawn(placeless(g)) {
		t.Fatalf("%s: %.200s %v, not %.200s", short(p), drawn(back), err, drawn(placeless(g)))
	}
	again, err := Make(back)
	if err != nil || told(again) != told(want) {
		t.Fatalf("%s: %s %v", short(want), short(again), err)
	}
	b, err := Bytes(p)
	if err != nil || string(b) != string(encoded(want)) {
		t.Fatalf("%s: %v %v, not %v", short(p), b, err, encoded(want))
	}
	loaded, err := Load(b)
	if err != nil || told(loaded) != told(want) {
		t.Fatalf("%v: %s %v, not %s", b, short(loaded), err, short(want))
	}
	isInOrder(t, g, p)
}

// isInOrder holds a program to P11.6.
func isInOrder(t *testing.T, g api.Grammar, p api.Program) {
	t.Helper()
	seen := map[string]bool{}
	for i, o := range p.Ops {
		if o.Kind != api.Ref && len(o.Subs) > 0 && slices.Max(o.Subs) >= i {
			t.Error(short(p), "has a part that does not stand ahead of", i)
		}
		seen[toldOp(o)] = true
	}
	count := 0
	for _, rule := range g.Rules {
		count += expressions(rule.Body)
	}
	if len(seen) != len(p.Ops) || len(p.Ops) > count {
		t.Error(short(p), len(p.Ops), "operations, of which differ", len(seen), "of so many expressions:", count)
	}
}

// expressions are how many there are in one, with itself.
func expressions(n api.Node) int {
	count := 1
	for _, sub := range n.Subs {
		count += expressions(sub)
	}
	return count
}

// isNone holds all calls to refuse what is no program, with nothing beside the error.
func isNone(t *testing.T, p api.Program) {
	t.Helper()
	if g, err := Grammar(p); err != api.ErrProgram || g.Rules != nil {
		t.Errorf("%s: %.200s %v", short(p), drawn(g), err)
	}
	if b, err := Bytes(p); err != api.ErrProgram || b != nil {
		t.Errorf("%s: %v %v", short(p), b, err)
	}
	if isWritable(p) {
		isNoProgram(t, encoded(p))
	}
}

// isNoProgram holds Load to refuse bytes, with nothing beside the error.
func isNoProgram(t *testing.T, b []byte) {
	t.Helper()
	if p, err := Load(b); err != api.ErrProgram || p.Ops != nil || p.Names != nil || p.Roots != nil {
		t.Errorf("%.100v: %s %v", b, short(p), err)
	}
}

// P11.1, P11.2, P11.3
func TestExamplesOfTheChapter(t *testing.T) {
	want := api.Program{
		Ops:   []api.Op{litOp("x"), op(api.Ref, 1), op(api.Seq, 0, 1), op(api.Alt, 2, 0), op(api.Star, 0)},
		Names: []string{"a", "b"},
		Roots: []int{3, 4},
	}
	isProgram(t, parsed(t, "a <- 'x' b / 'x' b <- 'x'*"), want)
	isRefused(t, parsed(t, "a <- a"), api.ErrLeft, 0)
}

// isRefused holds Make to an error with nothing beside it.
func isRefused(t *testing.T, g api.Grammar, code api.Errno, at int) {
	t.Helper()
	p, err := Make(g)
	if p.Ops != nil || p.Names != nil || p.Roots != nil || api.Code(err) != code || api.At(err) != at {
		t.Errorf("%.200s: %s %v, not %v at %d", drawn(g), short(p), err, code, at)
	}
}

// P11.1, P11.6: operations stand once, behind their parts, as one comes to them.
func TestPrograms(t *testing.T) {
	for source, want := range map[string]string{
		"a <- ()":                        "Empty; a; 0",
		"a <- ''":                        "Lit''; a; 0",
		"a <- 'x'":                       "Lit'x'; a; 0",
		`a <- 'a\x00\xff"'`:              `Lit'a\x00\xff"'; a; 0`,
		"a <- []":                        "Set[]; a; 0",
		"a <- [^]":                       `Set[\x00-\xff]; a; 0`,
		"a <- [xy0-9]":                   "Set[0-9xy]; a; 0",
		"a <- .":                         "Any; a; 0",
		"a <- b b <- .":                  "Ref 1, Any; a b; 0 1",
		"b <- . a <- b":                  "Any, Ref 0; b a; 0 1",
		"a <- 'x' a / .":                 "Lit'x', Ref 0, Seq 0 1, Any, Alt 2 3; a; 4",
		"a <- 'x' 'y'":                   "Lit'x', Lit'y', Seq 0 1; a; 2",
		"a <- 'x' / 'y'":                 "Lit'x', Lit'y', Alt 0 1; a; 2",
		"a <- 'x'?":                      "Lit'x', Opt 0; a; 1",
		"a <- 'x'*":                      "Lit'x', Star 0; a; 1",
		"a <- 'x'+":                      "Lit'x', Plus 0; a; 1",
		"a <- &'x'":                      "Lit'x', And 0; a; 1",
		"a <- !'x'":                      "Lit'x', Not 0; a; 1",
		"a <- !'x'*":                     "Lit'x', Star 0, Not 1; a; 2",
		"a <- . .":                       "Any, Seq 0 0; a; 1",
		"a <- . / . / .":                 "Any, Alt 0 0 0; a; 1",
		"a <- (. .) (. .)":               "Any, Seq 0 0, Seq 1 1; a; 2",
		"a <- (. .) / . .":               "Any, Seq 0 0, Alt 1 1; a; 2",
		"a <- (. / .) (. .)":             "Any, Alt 0 0, Seq 0 0, Seq 1 2; a; 3",
		"a <- 'x' [x] . () 'x' [x] . ()": "Lit'x', Set[x], Any, Empty, Seq 0 1 2 3 0 1 2 3; a; 4",
		"a <- () '' [] [^] .":            `Empty, Lit'', Set[], Set[\x00-\xff], Any, Seq 0 1 2 3 4; a; 5`,
		"a <- 'x' 'X' 'xx' ' x'":         "Lit'x', Lit'X', Lit'xx', Lit' x', Seq 0 1 2 3; a; 4",
		"a <- 'y' 'x' 'y'":               "Lit'y', Lit'x', Seq 0 1 0; a; 2",
		"a <- [xy] [x-y] [yx] [xz]":      "Set[xy], Set[xz], Seq 0 0 0 1; a; 2",
		"a <- 'x'? 'x'+ &'x' !'x' 'x'?":  "Lit'x', Opt 0, Plus 0, And 0, Not 0, Seq 1 2 3 4 1; a; 5",
		"a <- b 'b' b b <- 'b'":          "Ref 1, Lit'b', Seq 0 1 0; a b; 2 1",
		"a <- . b <- . c <- .":           "Any; a b c; 0 0 0",
		"a <- c b <- c c <- 'a'":         "Ref 2, Lit'a'; a b c; 0 0 1",
		"a <- b c b <- c 'a' c <- . .":   "Ref 1, Ref 2, Seq 0 1, Lit'a', Seq 1 3, Any, Seq 5 5; a b c; 2 4 6",
		"a <- . (. .) b <- . .":          "Any, Seq 0 0, Seq 0 1; a b; 2 1",
		"a <- (. 'x')* b <- . c <- 'x' d <- . 'x' e <- (. 'x')*": "Any, Lit'x', Seq 0 1, Star 2; a b c d e; 3 0 1 2 3",
		sums: "Ref 1, Any, Not 1, Seq 0 2, Ref 2, Lit'+', Seq 5 4, Star 6, Seq 4 7, Set[0-9], Plus 9, Lit'(', Lit')', Seq 11 0 12, Alt 10 13; s e t; 3 8 14",
	} {
		g := parsed(t, source)
		p, err := Make(g)
		if err != nil || told(p) != want {
			t.Errorf("%s: %s %v, not %s", source, told(p), err, want)
			continue
		}
		isProgram(t, g, p)
	}
}

// P11.1, P11.6: places of two digits and of one are not mixed up.
func TestPartsOfManyDigits(t *testing.T) {
	source := "a <- "
	for i := range 13 {
		source += lex.Quote(string(rune('a'+i))) + " "
	}
	p := made(t, source+"b <- 'b' 'm' / 'l' 'c' / 'b' 'b' 'c' / 'l' 'm' / 'b' 'm'")
	if got := told(api.Program{Ops: p.Ops[14:], Names: p.Names, Roots: p.Roots}); got != "Seq 1 12, Seq 11 2, Seq 1 1 2, Seq 11 12, Alt 14 15 16 17 14; a b; 13 18" {
		t.Error(got)
	}
}

// P11.1: places in sources are not looked at.
func TestPlacesAreNotLookedAt(t *testing.T) {
	want := told(made(t, "a <- . .* b <- ."))
	for _, at := range []int{api.MinInt, -1, 0, 7, api.MaxInt} {
		g := parsed(t, "a <- . .* b <- .")
		g.Rules[0].At, g.Rules[0].Body.At, g.Rules[0].Body.Subs[0].At, g.Rules[1].At, g.Rules[1].Body.At = at, at, at+1, at, at+2
		p, err := Make(g)
		if err != nil || told(p) != want {
			t.Error(at, told(p), err)
		}
		isProgram(t, g, p)
	}
}

// P11.1: sound.Check's error is told, with its place.
func TestGrammarsThatAreRefused(t *testing.T) {
	dot := bare(api.Any)
	for _, x := range []struct {
		g    api.Grammar
		code api.Errno
		at   int
	}{
		{api.Grammar{}, api.ErrTree, -1},
		{api.Grammar{Rules: []api.Rule{}}, api.ErrTree, -1},
		{ruled(api.Rule{Name: "a"}), api.ErrTree, -1},
		{ruled(api.Rule{Name: "", Body: dot}), api.ErrTree, -1},
		{ruled(api.Rule{Name: "a", Body: bare(13)}), api.ErrTree, -1},
		{ruled(api.Rule{Name: "a", Body: over(api.Seq, dot)}), api.ErrTree, -1},
		{ruled(api.Rule{Name: "a", Body: over(api.Star)}), api.ErrTree, -1},
		{ruled(api.Rule{Name: "a", Body: api.Node{Kind: api.Any, Text: "x"}}), api.ErrTree, -1},
		{ruled(api.Rule{Name: "a", Body: api.Node{Kind: api.Ref, Text: "a", Subs: []api.Node{dot}}}), api.ErrTree, -1},
		{ruled(api.Rule{Name: "a", Body: lit(strings.Repeat("x", api.MaxLit+1))}), api.ErrTree, -1},
		{ruled(slices.Repeat([]api.Rule{{Name: "a", Body: dot}}, api.MaxRules+1)...), api.ErrTree, -1},
		{ruled(api.Rule{Name: "a", Body: over(api.Seq, slices.Repeat([]api.Node{dot}, api.MaxSource)...)}), api.ErrLong, -1},
		{parsed(t, "a <- . b <- . a <- ."), api.ErrDouble, 14},
		{parsed(t, "a <- . b <- 'x' c"), api.ErrName, 16},
		{parsed(t, "a <- . ('x'?)*"), api.ErrLoop, 8},
		{parsed(t, "a <- 'x' b b <- a / c c <- b"), api.ErrLeft, 11},
	} {
		if err := sound.Check(x.g); api.Code(err) != x.code || api.At(err) != x.at {
			t.Error(err, "is sound's, not", x.code, x.at)
		}
		isRefused(t, x.g, x.code, x.at)
	}
}

// literals is a choice of so many that all differ.
func literals(count int) api.Node {
	n := bare(api.Alt)
	for i := range count {
		n.Subs = append(n.Subs, lit(strconv.Itoa(i)))
	}
	return n
}

// unchecked is the program of a grammar, however many operations it has.
func unchecked(g api.Grammar) api.Program {
	var p api.Program
	var texts []string
	var place func(n api.Node) int
	place = func(n api.Node) int {
		o := api.Op{Kind: n.Kind, Text: n.Text, Class: n.Class}
		if n.Kind == api.Ref {
			o.Text = ""
			o.Subs = []int{slices.IndexFunc(g.Rules, func(rule api.Rule) bool { return rule.Name == n.Text })}
		}
		for _, sub := range n.Subs {
			o.Subs = append(o.Subs, place(sub))
		}
		// Expressions have the same text just if they are the same, but for places.
		text := printer.Expr(n)
		at := slices.Index(texts, text)
		if at < 0 {
			at = len(texts)
			texts = append(texts, text)
			p.Ops = append(p.Ops, o)
		}
		return at
	}
	for _, rule := range g.Rules {
		p.Names = append(p.Names, rule.Name)
		p.Roots = append(p.Roots, place(rule.Body))
	}
	return p
}

// P11.1, P11.2, P11.3: as many operations as may be, and one more.
func TestMostOperations(t *testing.T) {
	for _, spread := range []bool{false, true} {
		for _, count := range []int{api.MaxOps - 1, api.MaxOps, api.MaxOps + 1, api.MaxOps + 2, 2 * api.MaxOps} {
			g := ruled(api.Rule{Name: "a", Body: literals(count - 1)})
			if spread {
				// The last operation is one of another rule; all that it shares is not counted again.
				g = ruled(api.Rule{Name: "a", Body: literals(count - 2)}, api.Rule{Name: "b", Body: over(api.Not, lit("7"))}, api.Rule{Name: "c", Body: lit("8")})
			}
			p := unchecked(g)
			if len(p.Ops) != count {
				t.Fatal(len(p.Ops))
			}
			if count <= api.MaxOps {
				isProgram(t, g, p)
				continue
			}
			isRefused(t, g, api.ErrLong, -1)
			isNone(t, p)
		}
	}
	// How many expressions there are is not asked.
	many := over(api.Seq, slices.Repeat([]api.Node{bare(api.Any), lit("x")}, 700)...)
	g := ruled(api.Rule{Name: "a", Body: many})
	isProgram(t, g, unchecked(g))
}

// P11.1: what sound.Check tells is told ahead of too many operations.
func TestUnsoundAndTooMany(t *testing.T) {
	many := literals(api.MaxOps)
	isRefused(t, ruled(api.Rule{Name: "a", Body: many}, api.Rule{Name: "b", Body: ref("b"), At: 5}), api.ErrLeft, 5)
	isRefused(t, ruled(api.Rule{Name: "a", Body: many}, api.Rule{Name: "b", Body: api.Node{Kind: api.Ref, Text: "c", At: 9}}), api.ErrName, 9)
	isRefused(t, ruled(api.Rule{Name: "a", Body: many}, api.Rule{Name: "b"}), api.ErrTree, -1)
}

// P11.1 to P11.3, P11.5: grammars at the limits.
func TestGrammarsAtTheLimits(t *testing.T) {
	var most api.Grammar
	for i := range api.MaxRules {
		long := name(i)
		long += strings.Repeat("n", api.MaxName-len(long))
		most.Rules = append(most.Rules, api.Rule{Name: long, Body: lit(string([]byte{byte(i), 255}))})
	}
	most.Rules[0].Body = ref(most.Rules[api.MaxRules-1].Name)
	nested := bare(api.Any)
	for range api.MaxNest + 1 {
		nested = over(api.Opt, nested)
	}
	for _, g := range []api.Grammar{
		most,
		ruled(api.Rule{Name: "a", Body: nested}),
		ruled(api.Rule{Name: "a", Body: lit(strings.Repeat("x", api.MaxLit))}),
		ruled(api.Rule{Name: "aa", Body: over(api.Seq, slices.Repeat([]api.Node{bare(api.Any)}, api.MaxSource/2-3)...)}),
	} {
		isProgram(t, g, unchecked(g))
	}
	text, err := printer.Print(ruled(api.Rule{Name: "aa", Body: over(api.Seq, slices.Repeat([]api.Node{bare(api.Any)}, api.MaxSource/2-3)...)}))
	if err != nil || len(text) != api.MaxSource {
		t.Error(len(text), err)
	}
}

// base is a program, in memory of its own.
func base() api.Program {
	return api.Program{
		Ops:   []api.Op{litOp("x"), op(api.Ref, 1), op(api.Seq, 0, 1), op(api.Alt, 2, 0), op(api.Star, 0), {Kind: api.Set, Class: api.Class{2, 0, 0, 1 << 63}}, op(api.Any), op(api.Not, 6), op(api.Seq, 4, 5, 7), op(api.Empty), op(api.Opt, 6)},
		Names: []string{"a", "b", "c", "d"},
		Roots: []int{3, 8, 9, 10},
	}
}

// P11.2: what is as it must be but for one thing.
func TestProgramsWithOneFault(t *testing.T) {
	if _, err := Grammar(base()); err != nil {
		t.Fatal(err)
	}
	for what, change := range map[string]func(p *api.Program){
		"nothing at all":           func(p *api.Program) { *p = api.Program{} },
		"no rules":                 func(p *api.Program) { p.Names, p.Roots = nil, nil },
		"no operations":            func(p *api.Program) { p.Ops = nil },
		"operations alone":         func(p *api.Program) { p.Names, p.Roots, p.Ops = []string{}, []int{}, p.Ops[:1] },
		"a name too few":           func(p *api.Program) { p.Names = p.Names[:3] },
		"no names":                 func(p *api.Program) { p.Names = nil },
		"a root too few":           func(p *api.Program) { p.Roots = p.Roots[:3] },
		"a root too many":          func(p *api.Program) { p.Roots = append(p.Roots, 0) },
		"no roots":                 func(p *api.Program) { p.Roots = nil },
		"an empty name":            func(p *api.Program) { p.Names[2] = "" },
		"a digit ahead":            func(p *api.Program) { p.Names[0] = "1a" },
		"a blank in a name":        func(p *api.Program) { p.Names[1] = "b b" },
		"a name too long":          func(p *api.Program) { p.Names[1] = strings.Repeat("n", api.MaxName+1) },
		"a name twice":             func(p *api.Program) { p.Names[3] = "a" },
		"a name used twice":        func(p *api.Program) { p.Names[0] = "b" },
		"a name used, twice":       func(p *api.Program) { p.Names[2] = "b" },
		"a rule of no use too few": func(p *api.Program) { p.Names, p.Roots = p.Names[:3], p.Roots[:3] },
		"a rule of use too few":    func(p *api.Program) { p.Names, p.Roots = p.Names[:1], p.Roots[:1] },
		"the rules turned round":   func(p *api.Program) { slices.Reverse(p.Roots) },
		"a root below 0":           func(p *api.Program) { p.Roots[0] = -1 },
		"the lowest root":          func(p *api.Program) { p.Roots[3] = api.MinInt },
		"a root too great":         func(p *api.Program) { p.Roots[3] = len(p.Ops) },
		"the greatest root":        func(p *api.Program) { p.Roots[0] = api.MaxInt },
		"another root":             func(p *api.Program) { p.Roots[0] = 2 },
		"a root farther on":        func(p *api.Program) { p.Roots[0] = 8 },
		"an operation of no use":   func(p *api.Program) { p.Ops = append(p.Ops, litOp("y")) },
		"one of no use ahead":      func(p *api.Program) { p.Roots[3] = 6 },
		"one twice, of no use":     func(p *api.Program) { p.Ops = append(p.Ops, litOp("x")) },
		"one twice, of use":        func(p *api.Program) { p.Ops = append(p.Ops, op(api.Any)); p.Roots[3] = 11 },
		"like another one":         func(p *api.Program) { p.Ops[9] = op(api.Any) },
		"the last one too few":     func(p *api.Program) { p.Ops = p.Ops[:10] },
		"the last one elsewhere": func(p *api.Program) {
			p.Ops[9], p.Ops[10] = p.Ops[10], p.Ops[9]
			p.Roots[2], p.Roots[3] = 10, 9
		},
		"parts turned round":  func(p *api.Program) { p.Ops[2].Subs[0], p.Ops[2].Subs[1] = 1, 0 },
		"a part too late":     func(p *api.Program) { p.Ops[4].Subs[0] = 6 },
		"a part in itself":    func(p *api.Program) { p.Ops[4].Subs[0] = 4 },
		"parts in a ring":     func(p *api.Program) { p.Ops[2].Subs[0] = 3 },
		"a part below 0":      func(p *api.Program) { p.Ops[7].Subs[0] = -1 },
		"the lowest part":     func(p *api.Program) { p.Ops[7].Subs[0] = api.MinInt },
		"a part too great":    func(p *api.Program) { p.Ops[7].Subs[0] = 11 },
		"the greatest part":   func(p *api.Program) { p.Ops[8].Subs[2] = api.MaxInt },
		"a kind of 0":         func(p *api.Program) { p.Ops[9].Kind = 0 },
		"a kind too great":    func(p *api.Program) { p.Ops[9].Kind = 13 },
		"a kind below 0":      func(p *api.Program) { p.Ops[9].Kind = -1 },
		"the lowest kind":     func(p *api.Program) { p.Ops[9].Kind = api.MinInt },
		"the greatest kind":   func(p *api.Program) { p.Ops[9].Kind = api.MaxInt },
		"a Ref of none":       func(p *api.Program) { p.Ops[1].Subs = nil },
		"a Ref of two":        func(p *api.Program) { p.Ops[1].Subs = []int{1, 1} },
		"a Ref below 0":       func(p *api.Program) { p.Ops[1].Subs[0] = -1 },
		"the lowest Ref":      func(p *api.Program) { p.Ops[1].Subs[0] = api.MinInt },
		"a Ref of no rule":    func(p *api.Program) { p.Ops[1].Subs[0] = 4 },
		"the greatest Ref":    func(p *api.Program) { p.Ops[1].Subs[0] = api.MaxInt },
		"a Ref with its name": func(p *api.Program) { p.Ops[1].Text = "b" },
		"a Ref with a class":  func(p *api.Program) { p.Ops[1].Class[0] = 1 },
		"a long text":         func(p *api.Program) { p.Ops[0].Text = strings.Repeat("x", api.MaxLit+1) },
		"a Lit with a class":  func(p *api.Program) { p.Ops[0].Class[3] = 1 },
		"a Lit with a part":   func(p *api.Program) { p.Ops[5] = api.Op{Kind: api.Lit, Text: "y", Subs: []int{0}} },
		"a Set with a text":   func(p *api.Program) { p.Ops[5].Text = "x" },
		"a Set with a part":   func(p *api.Program) { p.Ops[5].Subs = []int{0} },
		"an Any with a text":  func(p *api.Program) { p.Ops[6].Text = "." },
		"an Any with a class": func(p *api.Program) { p.Ops[6].Class[1] = 1 },
		"an Any with a part":  func(p *api.Program) { p.Ops[6].Subs = []int{5} },
		"an Empty of a text":  func(p *api.Program) { p.Ops[9].Text = "()" },
		"an Empty of a class": func(p *api.Program) { p.Ops[9].Class[2] = 1 },
		"an Empty of a part":  func(p *api.Program) { p.Ops[9].Subs = []int{8} },
		"a Seq of none":       func(p *api.Program) { p.Ops[9] = op(api.Seq) },
		"a Seq of one":        func(p *api.Program) { p.Ops[8].Subs = []int{7} },
		"an Alt of one":       func(p *api.Program) { p.Ops[9] = op(api.Alt, 8) },
		"a Seq with a text":   func(p *api.Program) { p.Ops[2].Text = " " },
		"an Alt with a class": func(p *api.Program) { p.Ops[3].Class[0] = 2 },
		"a Star of none":      func(p *api.Program) { p.Ops[4].Subs = nil },
		"a Star of two":       func(p *api.Program) { p.Ops[4].Subs = []int{0, 0} },
		"a Star with a text":  func(p *api.Program) { p.Ops[4].Text = "*" },
		"an Opt of none":      func(p *api.Program) { p.Ops[10].Subs = nil },
		"an Opt of two":       func(p *api.Program) { p.Ops[10].Subs = []int{6, 6} },
		"a Not of none":       func(p *api.Program) { p.Ops[7].Subs = nil },
		"a Not with a class":  func(p *api.Program) { p.Ops[7].Class[0] = 1 },
		"a loop":              func(p *api.Program) { p.Ops[10] = op(api.Plus, 9) },
		"a rule of itself":    func(p *api.Program) { p.Ops[10] = op(api.Ref, 3) },
		"a row of itself":     func(p *api.Program) { p.Ops[2] = op(api.Seq, 0, 0); p.Ops[1].Subs[0] = 0 },
		"a start of itself":   func(p *api.Program) { *p = one(op(api.Ref, 0)) },
	} {
		p := base()
		change(&p)
		if isJudgedProgram(p) {
			t.Error(what, "is a program by the chapter")
		}
		isNone(t, p)
		if t.Failed() {
			t.Fatal(what)
		}
	}
}

// P11.2, with W5: lists that are nil and that are empty are the same.
func TestEmptyLists(t *testing.T) {
	p := base()
	want, err := Grammar(p)
	if err != nil {
		t.Fatal(err)
	}
	for i := range p.Ops {
		if len(p.Ops[i].Subs) == 0 {
			p.Ops[i].Subs = make([]int, 0, i)
		}
	}
	got, err := Grammar(p)
	b, err2 := Bytes(p)
	if err != nil || err2 != nil || drawn(got) != drawn(want) || string(b) != string(encoded(base())) {
		t.Error(drawn(got), err, b, err2)
	}
	isNone(t, api.Program{Ops: []api.Op{}, Names: []string{}, Roots: []int{}})
}

// isJudgedProgram tells the chapter another way: operations are come to for the first time in just their order, no two are alike, and
// the tree is one of a sound grammar.
func isJudgedProgram(p api.Program) bool {
	if len(p.Names) != len(p.Roots) || len(p.Ops) > api.MaxOps || hasTwins(p) {
		return false
	}
	next := 0
	var comesTo func(place, below int) bool
	comesTo = func(place, below int) bool {
		if place < 0 || place >= below {
			return false
		}
		if place < next {
			return true
		}
		o := p.Ops[place]
		if o.Kind == api.Ref && (len(o.Subs) != 1 || o.Subs[0] < 0 || o.Subs[0] >= len(p.Names) || o.Text != "") {
			return false
		}
		for _, sub := range o.Subs {
			if o.Kind != api.Ref && !comesTo(sub, place) {
				return false
			}
		}
		next++
		return place == next-1
	}
	for _, root := range p.Roots {
		if !comesTo(root, len(p.Ops)) {
			return false
		}
	}
	return next == len(p.Ops) && sound.Check(treeOf(p)) == nil
}

// hasTwins tells whether two operations are alike.
func hasTwins(p api.Program) bool {
	for i := range p.Ops {
		for k := range i {
			if toldOp(p.Ops[i]) == toldOp(p.Ops[k]) {
				return true
			}
		}
	}
	return false
}

// treeOf is the grammar of a program that may be unfolded.
func treeOf(p api.Program) api.Grammar {
	var nodes []api.Node
	for _, o := range p.Ops {
		n := api.Node{Kind: o.Kind, Text: o.Text, Class: o.Class}
		for _, sub := range o.Subs {
			if o.Kind == api.Ref {
				n.Text = p.Names[sub]
			} else {
				n.Subs = append(n.Subs, nodes[sub])
			}
		}
		nodes = append(nodes, n)
	}
	var g api.Grammar
	for i, name := range p.Names {
		g.Rules = append(g.Rules, api.Rule{Name: name, Body: nodes[p.Roots[i]]})
	}
	return g
}

// isAsJudged holds all calls to the judge, and tells what that says.
func isAsJudged(t *testing.T, p api.Program) bool {
	t.Helper()
	if !isJudgedProgram(p) {
		isNone(t, p)
		return false
	}
	isProgram(t, treeOf(p), p)
	return true
}

// P11.2, P11.3: all programs of one rule and of two operations with up to two parts.
func TestAllSmallPrograms(t *testing.T) {
	lists := [][]int{nil, {0}, {1}, {2}, {0, 0}, {0, 1}, {1, 0}, {1, 1}, {0, 2}}
	var ops []api.Op
	for kind := range 14 {
		for _, list := range lists {
			ops = append(ops, op(kind, list...))
		}
	}
	ops = append(ops, litOp("a"), api.Op{Kind: api.Ref, Text: "a", Subs: []int{0}}, api.Op{Kind: api.Set, Class: api.Class{1}})
	count := 0
	for _, first := range ops {
		for root := range 2 {
			if isAsJudged(t, api.Program{Names: []string{"a"}, Roots: []int{root}, Ops: []api.Op{first}}) {
				count++
			}
		}
		for _, second := range ops {
			for root := range 3 {
				if isAsJudged(t, api.Program{Names: []string{"a"}, Roots: []int{root}, Ops: []api.Op{first, second}}) {
					count++
				}
			}
		}
	}
	// Six leaves are programs (a Ref of the rule itself is not sound); each has a Seq, an Alt, an Opt, an And and a Not of it, the four
	// that are not Zero have a Star and a Plus of it, too; a Ref within such a look or row is not sound, either.
	if count != 6+6*5+4*2 {
		t.Error(count)
	}
}

// P11.2, P11.4: a program whose grammar would be too long is refused, however small it is.
func TestProgramsThatAreTooGreat(t *testing.T) {
	doubled := func(kind, count int, ops ...api.Op) api.Program {
		for range count {
			ops = append(ops, op(kind, len(ops)-1, len(ops)-1))
		}
		return one(ops...)
	}
	for _, kind := range []int{api.Seq, api.Alt} {
		for _, count := range []int{13, 14, 20, 31, 62, 63, 64, 65, 128, api.MaxOps - 1, api.MaxOps} {
			isNone(t, doubled(kind, count, op(api.Any)))
			isNone(t, doubled(kind, count, op(api.Empty)))
			isNone(t, doubled(kind, count, litOp("")))
			isNone(t, doubled(kind, count, op(api.Set)))
		}
	}
	wide := make([]int, api.MaxSource)
	isNone(t, one(op(api.Any), op(api.Seq, wide...)))
	isNone(t, one(op(api.Any), op(api.Alt, make([]int, 1<<20)...)))
	broad := []api.Op{op(api.Any)}
	for i := range 20 {
		broad = append(broad, op(api.Seq, slices.Repeat([]int{i}, 1000)...))
	}
	isNone(t, one(broad...))
	isNone(t, api.Program{Names: slices.Repeat([]string{"a"}, 1<<16), Roots: make([]int, 1<<16), Ops: []api.Op{op(api.Any)}})
	isNone(t, api.Program{Names: []string{"a"}, Roots: []int{0}, Ops: make([]api.Op, 1<<16)})
	// Rules may share the root that is long.
	isNone(t, api.Program{Names: []string{"a", "b", "c"}, Roots: []int{1, 1, 1}, Ops: []api.Op{op(api.Any), op(api.Seq, make([]int, 2000)...)}})
}

// P11.2, P11.4: long texts that are shared are not written out to see that they are too long.
func TestLongTextsThatAreShared(t *testing.T) {
	long := strings.Repeat("x", 1<<20)
	for _, p := range []api.Program{
		one(litOp(long), op(api.Seq, make([]int, 4000)...)),
		one(slices.Concat([]api.Op{litOp(long)}, doublings(11)[1:])...),
		{Names: []string{"a", long}, Roots: []int{1, 2}, Ops: []api.Op{op(api.Ref, 1), op(api.Seq, make([]int, 4000)...), op(api.Any)}},
		{Names: slices.Repeat([]string{long}, api.MaxRules), Roots: make([]int, api.MaxRules), Ops: []api.Op{op(api.Any)}},
	} {
		var before, after runtime.MemStats
		runtime.ReadMemStats(&before)
		g, err := Grammar(p)
		runtime.ReadMemStats(&after)
		if err != api.ErrProgram || g.Rules != nil || after.TotalAlloc-before.TotalAlloc > 16<<20 {
			t.Error(short(p), err, after.TotalAlloc-before.TotalAlloc, "bytes")
		}
		isNone(t, p)
	}
}

// P11.2, P11.4: the longest grammars that may be, and those that are a byte longer, of programs that share much.
func TestProgramsUpToASource(t *testing.T) {
	for _, x := range []struct {
		name string
		p    api.Program
		is   bool
	}{
		{"a row", one(op(api.Any), op(api.Seq, make([]int, api.MaxSource/2-3)...)), true},
		{"a longer row", one(op(api.Any), op(api.Seq, make([]int, api.MaxSource/2-2)...)), false},
		{"a row of stars", one(op(api.Any), op(api.Star, 0), op(api.Seq, slices.Repeat([]int{1}, 2729)...)), true},
		{"a longer row of stars", one(op(api.Any), op(api.Star, 0), op(api.Seq, slices.Repeat([]int{1}, 2730)...)), false},
		{"a row of literals", one(litOp(strings.Repeat("x", api.MaxLit)), op(api.Seq, make([]int, 31)...)), true},
		{"a longer row of literals", one(litOp(strings.Repeat("x", api.MaxLit)), op(api.Seq, make([]int, 32)...)), false},
		{"a choice", one(op(api.Any), op(api.Alt, make([]int, 2047)...)), true},
		{"a longer choice", one(op(api.Any), op(api.Alt, make([]int, 2048)...)), false},
		// Each has twice the bytes of the one within it, two pairs of parentheses, a blank: 4091 of ten, 8187 of eleven.
		{"ten doublings", one(doublings(10)...), true},
		{"eleven doublings", one(doublings(11)...), false},
		{"two rules", api.Program{Names: []string{"a", "b"}, Roots: []int{1, 1}, Ops: []api.Op{op(api.Any), op(api.Seq, make([]int, 2045)...)}}, true},
		{"two longer rules", api.Program{Names: []string{"a", "b"}, Roots: []int{1, 1}, Ops: []api.Op{op(api.Any), op(api.Seq, make([]int, 2046)...)}}, false},
		{"long names", api.Program{Names: []string{"a", "bcd"}, Roots: []int{1, 1}, Ops: []api.Op{op(api.Any), op(api.Seq, make([]int, 2045)...)}}, true},
		{"longer names", api.Program{Names: []string{"a", "bcde"}, Roots: []int{1, 1}, Ops: []api.Op{op(api.Any), op(api.Seq, make([]int, 2045)...)}}, false},
	} {
		if isAsJudged(t, x.p) != x.is {
			t.Error(x.name)
		}
	}
}

// doublings are rows of two that are alike, so many within each other.
func doublings(count int) []api.Op {
	ops := []api.Op{op(api.Any)}
	for i := range count {
		ops = append(ops, op(api.Seq, i, i))
	}
	return ops
}

// P11.2: parentheses, as many as may be open at once, and one more.
func TestProgramsThatAreTooDeep(t *testing.T) {
	for _, kind := range []int{api.Opt, api.And, api.Not} {
		for _, count := range []int{api.MaxNest, api.MaxNest + 1, api.MaxNest + 2, api.MaxOps - 1} {
			ops := []api.Op{op(api.Any)}
			for i := range count {
				ops = append(ops, op(kind, i))
			}
			if isAsJudged(t, one(ops...)) != (count <= api.MaxNest+1) {
				t.Error(kind, count)
			}
		}
	}
}

// P11.1 to P11.3, with W2: calls at one time know nothing of each other.
func TestCallsAtOneTime(t *testing.T) {
	g := parsed(t, sums)
	p := made(t, sums)
	b := encoded(p)
	var group sync.WaitGroup
	for range 8 {
		group.Go(func() {
			for range 50 {
				made, err := Make(g)
				back, err2 := Grammar(p)
				c, err3 := Bytes(p)
				q, err4 := Load(b)
				if err != nil || err2 != nil || err3 != nil || err4 != nil || told(made) != told(p) || told(q) != told(p) || string(c) != string(b) || drawn(back) != drawn(placeless(g)) {
					t.Error(made, err, back, err2, c, err3, q, err4)
				}
			}
		})
	}
	group.Wait()
}

// dice are numbers that look like chance, the same ones in every run.
type dice uint64

// roll is a number below n.
func (d *dice) roll(n int) int {
	*d = *d*6364136223846793005 + 1442695040888963407
	return int(*d>>33) % n
}

// node is a tree, up to so many nodes deep, of names of rules up to a number.
func (d *dice) node(deep, names int) api.Node {
	kind := 1 + d.roll(12)
	if deep == 0 {
		kind = 1 + d.roll(5)
	} else if d.roll(2) == 0 {
		kind = api.Seq + d.roll(2)
	}
	n := api.Node{Kind: kind, At: d.roll(1 << 20)}
	switch {
	case kind == api.Lit:
		n.Text = "xyx"[d.roll(2):][:d.roll(3)]
	case kind == api.Set:
		n.Class[d.roll(4)] = uint64(d.roll(3))
	case kind == api.Ref:
		n.Text = name(d.roll(names))
	case kind == api.Seq || kind == api.Alt:
		for range 2 + d.roll(3) {
			n.Subs = append(n.Subs, d.node(deep-1, names))
		}
	case kind > api.Alt:
		n.Subs = []api.Node{d.node(deep-1, names)}
	}
	return n
}

// sound is a sound grammar of up to six rules. Each is drawn until all are sound, as few great trees are.
func (d *dice) sound() api.Grammar {
	var g api.Grammar
	for i := range 1 + d.roll(6) {
		g.Rules = append(g.Rules, api.Rule{Name: name(i), Body: bare(api.Any), At: d.roll(1 << 20)})
	}
	for i := range g.Rules {
		deep := d.roll(5)
		for isDrawn := false; !isDrawn; isDrawn = sound.Check(g) == nil {
			g.Rules[i].Body = d.node(deep, len(g.Rules))
		}
	}
	return g
}

// P11.1 to P11.3, P11.5, P11.6: drawn grammars, against the chapter told another way.
func TestDrawnGrammars(t *testing.T) {
	d := dice(11)
	shared, long := 0, 0
	for range 4000 {
		g := d.sound()
		p := unchecked(g)
		if len(p.Ops) > api.MaxOps {
			isRefused(t, g, api.ErrLong, -1)
			isNone(t, p)
			continue
		}
		isProgram(t, g, p)
		count := 0
		for _, rule := range g.Rules {
			count += expressions(rule.Body)
		}
		if len(p.Ops) < count {
			shared++
		}
		if len(p.Ops) > 20 {
			long++
		}
	}
	if shared < 2000 || long < 400 {
		t.Error("few programs of a kind:", shared, long)
	}
}

// change makes one thing of a program another one.
func (d *dice) change(p *api.Program) {
	place := d.roll(len(p.Ops))
	o := &p.Ops[place]
	switch d.roll(12) {
	case 0:
		o.Kind = d.roll(14)
	case 1:
		o.Text = "xy"[:d.roll(3)]
	case 2:
		o.Class[d.roll(4)] ^= 1 << d.roll(3)
	case 3:
		o.Subs = append(o.Subs, d.roll(place+1))
	case 4, 5:
		if len(o.Subs) > 0 {
			o.Subs[d.roll(len(o.Subs))] = d.roll(place+2) - 1
		}
	case 6:
		o.Subs = o.Subs[:len(o.Subs)/2]
	case 7:
		other := d.roll(len(p.Ops))
		p.Ops[place], p.Ops[other] = p.Ops[other], p.Ops[place]
	case 8:
		p.Ops = append(p.Ops, *o)
		p.Ops[len(p.Ops)-1].Subs = slices.Clone(o.Subs)
	case 9:
		p.Ops = p.Ops[:max(1, len(p.Ops)-1)]
	case 10:
		p.Roots[d.roll(len(p.Roots))] = d.roll(len(p.Ops)+2) - 1
	case 11:
		p.Names[d.roll(len(p.Names))] = []string{"r0", "r1", "other", "", "1"}[d.roll(5)]
	}
}

// copied is a program in other memory.
func copied(p api.Program) api.Program {
	out := api.Program{Ops: slices.Clone(p.Ops), Names: slices.Clone(p.Names), Roots: slices.Clone(p.Roots)}
	for i := range out.Ops {
		out.Ops[i].Subs = slices.Clone(p.Ops[i].Subs)
	}
	return out
}

// P11.2, P11.3: drawn programs, in which something was changed, against the chapter told another way.
func TestDrawnPrograms(t *testing.T) {
	d := dice(2)
	programs, others := 0, 0
	for range 1000 {
		p := unchecked(d.sound())
		for i := range 12 {
			changed := copied(p)
			for range 1 + i%2 {
				d.change(&changed)
			}
			if isAsJudged(t, changed) {
				programs++
			} else {
				others++
			}
			if t.Failed() {
				t.Fatal(told(changed))
			}
		}
	}
	if programs < 2000 || others < 6000 {
		t.Error("few programs of a kind:", programs, others)
	}
}

func FuzzMake(f *testing.F) {
	for _, s := range []string{sums, "a <- 'x' b / 'x' b <- 'x'*", "a <- a", "a <- ('x'?)*", "a <- b", "a <- () / . ''", "a <- [^x] . c <- &. !. .+"} {
		f.Add(s)
	}
	f.Fuzz(func(t *testing.T, source string) {
		g, err := syntax.Parse(source)
		if err != nil || len(source) > 600 {
			return
		}
		if err := sound.Check(g); err != nil {
			isRefused(t, g, api.Code(err), api.At(err))
			return
		}
		p := unchecked(g)
		if len(p.Ops) > api.MaxOps {
			isRefused(t, g, api.ErrLong, -1)
			return
		}
		isProgram(t, g, p)
	})
}
