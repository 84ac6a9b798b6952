package lean

import (
	"slices"
	"strings"
	"testing"

	"muntin/api"
	"muntin/class"
	"muntin/ford"
	"muntin/nullable"
	"muntin/printer"
	"muntin/scope"
	"muntin/sound"
	"muntin/syntax"
)

// judge tells the chapter another way: sentence by sentence, each of which goes through a list anew.
type judge struct {
	t testing.TB
	g api.Grammar
}

// asked is what a lean form may come to in the grammar as it came in.
func (j judge) asked(n api.Node) api.Out {
	out, err := nullable.Expr(j.g, n)
	if err != nil || out == (api.Out{}) {
		j.t.Fatal(shown(j.g), printer.Expr(n), out, err)
	}
	return out
}

func (j judge) neverFails(n api.Node) bool    { return !j.asked(n).Fail }
func (j judge) neverSucceeds(n api.Node) bool { return !j.asked(n).Zero && !j.asked(n).Some }

// grammar is the lean one of the judge's.
func (j judge) grammar() api.Grammar {
	var out api.Grammar
	for _, rule := range j.g.Rules {
		out.Rules = append(out.Rules, api.Rule{Name: rule.Name, Body: j.lean(rule.Body)})
	}
	out, err := scope.Prune(out)
	if err != nil {
		j.t.Fatal(shown(j.g), err)
	}
	return out
}

// lean is the lean form of an expression.
func (j judge) lean(n api.Node) api.Node {
	switch n.Kind {
	case api.Empty:
		return lit("")
	case api.Lit, api.Ref:
		n.At = 0
		return n
	case api.Set, api.Any:
		return j.single(j.bytes(n))
	case api.Seq, api.Alt:
		return j.list(n)
	}
	part := j.lean(n.Subs[0])
	switch n.Kind {
	case api.Opt:
		return j.opt(part)
	case api.Star, api.Plus:
		return j.many(n.Kind, part)
	}
	return j.look(n.Kind, part)
}

// bytes are those of a single, as a text, rising; none, if it is no single, or NOTHING.
func (j judge) bytes(n api.Node) string {
	var out []byte
	for b := range 256 {
		if n.Kind == api.Any || n.Kind == api.Set && class.Has(n.Class, byte(b)) || n.Kind == api.Lit && n.Text == string([]byte{byte(b)}) {
			out = append(out, byte(b))
		}
	}
	return string(out)
}

// single is the one of some bytes.
func (j judge) single(bytes string) api.Node {
	out := bare(api.Set)
	for _, b := range []byte(bytes) {
		one, _ := class.Range(int(b), int(b))
		out.Class = class.Either(out.Class, one)
	}
	switch class.Text(out.Class) {
	case "[\\x00-\\xff]":
		return bare(api.Any)
	case "[']":
		return out
	}
	if class.Count(out.Class) == 1 {
		return lit(bytes)
	}
	return out
}

// list is the lean form of a Seq or an Alt.
func (j judge) list(n api.Node) api.Node {
	var parts []api.Node
	for _, sub := range n.Subs {
		if part := j.lean(sub); part.Kind == n.Kind {
			parts = append(parts, part.Subs...)
		} else {
			parts = append(parts, part)
		}
	}
	if n.Kind == api.Seq {
		parts = j.row(parts)
	} else {
		parts = j.choice(parts)
	}
	switch {
	case len(parts) == 1:
		return parts[0]
	case len(parts) > 1:
		return over(n.Kind, parts...)
	case n.Kind == api.Seq:
		return lit("")
	}
	return bare(api.Set)
}

// row are what is left of a Seq's parts.
func (j judge) row(parts []api.Node) []api.Node {
	parts = slices.DeleteFunc(parts, func(n api.Node) bool { return n.Kind == api.Lit && n.Text == "" })
	for i := 0; i+1 < len(parts); {
		if one, two := parts[i], parts[i+1]; one.Kind == api.Lit && two.Kind == api.Lit && len(one.Text+two.Text) <= 255 {
			parts = slices.Concat(parts[:i], []api.Node{lit(one.Text + two.Text)}, parts[i+2:])
		} else {
			i++
		}
	}
	return parts
}

// choice are what is left of an Alt's parts.
func (j judge) choice(parts []api.Node) []api.Node {
	if i := slices.IndexFunc(parts, j.neverFails); i >= 0 {
		parts = parts[:i+1]
	}
	parts = slices.DeleteFunc(slices.Clone(parts), j.neverSucceeds)
	for i := 0; i < len(parts); i++ {
		text := printer.Expr(parts[i])
		same := func(n api.Node) bool { return printer.Expr(n) == text }
		parts = append(slices.Clone(parts[:i+1]), slices.DeleteFunc(slices.Clone(parts[i+1:]), same)...)
	}
	for i := 0; i+1 < len(parts); {
		one, two := j.bytes(parts[i]), j.bytes(parts[i+1])
		if one != "" && two != "" {
			parts = slices.Concat(parts[:i], []api.Node{j.single(one + two)}, parts[i+2:])
		} else {
			i++
		}
	}
	return parts
}

// opt is the lean form of an Opt, by that of its part.
func (j judge) opt(part api.Node) api.Node {
	if j.neverSucceeds(part) || part.Kind == api.And || part.Kind == api.Not {
		return lit("")
	}
	if j.neverFails(part) {
		return part
	}
	if part.Kind == api.Plus {
		return over(api.Star, part.Subs...)
	}
	return over(api.Opt, part)
}

// many is the lean form of a Star or a Plus, by that of its part.
func (j judge) many(kind int, part api.Node) api.Node {
	if j.neverSucceeds(part) && kind == api.Star {
		return lit("")
	}
	if j.neverSucceeds(part) {
		return bare(api.Set)
	}
	if part.Kind == api.Plus {
		return over(kind, part.Subs...)
	}
	return over(kind, part)
}

// look is the lean form of an And or a Not, by that of its part: an even count of Nots is an And.
func (j judge) look(kind int, part api.Node) api.Node {
	if j.neverFails(part) || j.neverSucceeds(part) {
		if j.neverFails(part) == (kind == api.And) {
			return lit("")
		}
		return bare(api.Set)
	}
	if part.Kind != api.And && part.Kind != api.Not {
		return over(kind, part)
	}
	if kind == part.Kind {
		return over(api.And, part.Subs...)
	}
	return over(api.Not, part.Subs...)
}

// dice are numbers that look like chance, the same ones in every run.
type dice uint64

// roll is a number below n.
func (d *dice) roll(n int) int {
	*d = *d*6364136223846793005 + 1442695040888963407
	return int(*d>>33) % n
}

// text is one of so many letters.
func (d *dice) text(long int) string {
	var out strings.Builder
	for range long {
		out.WriteByte("xxyyz'"[d.roll(6)])
	}
	return out.String()
}

// class is a set of a few letters, or of all other bytes, or of half of all.
func (d *dice) class() api.Class {
	var out api.Class
	for _, b := range []byte(d.text(d.roll(4))) {
		out[b/64] |= 1 << (b % 64)
	}
	switch d.roll(8) {
	case 0:
		return class.Not(out)
	case 1:
		out, _ = class.Range(0, 'y')
	case 2:
		out, _ = class.Range('x', 255)
	}
	return out
}

// kind is one of an expression: of one with parts, if it may have some.
func (d *dice) kind(parts bool) int {
	if !parts {
		return []int{api.Lit, api.Lit, api.Lit, api.Set, api.Set, api.Ref, api.Ref, api.Any, api.Empty}[d.roll(9)]
	}
	return []int{api.Seq, api.Seq, api.Seq, api.Alt, api.Alt, api.Alt, api.Opt, api.Star, api.Plus, api.And, api.Not}[d.roll(11)]
}

// node is a tree, up to so many nodes deep, of names of some rules: mostly those from a place on, so that few begin with themselves.
func (d *dice) node(deep, from, names int) api.Node {
	n := api.Node{Kind: d.kind(deep > 0 && d.roll(4) > 0), At: d.roll(900)}
	switch n.Kind {
	case api.Lit:
		n.Text = d.text((2 + d.roll(5)) / 3)
	case api.Set:
		n.Class = d.class()
	case api.Ref:
		n.Text = name(min(from, names-1) + d.roll(max(1, names-from)))
		if d.roll(6) == 0 {
			n.Text = name(d.roll(names))
		}
	case api.Seq, api.Alt:
		for range 2 + d.roll(4) {
			n.Subs = append(n.Subs, d.node(deep-1, from, names))
		}
	case api.Opt, api.Star, api.Plus, api.And, api.Not:
		n.Subs = []api.Node{d.node(deep-1, from, names)}
	}
	return n
}

// sound is a sound grammar of up to five rules.
func (d *dice) sound() api.Grammar {
	for {
		var g api.Grammar
		count := 1 + d.roll(5)
		for i := range count {
			g.Rules = append(g.Rules, api.Rule{Name: name(i), Body: d.node(1+d.roll(4), i+1, count), At: d.roll(900)})
		}
		if sound.Check(g) != nil {
			continue
		}
		// Small grammars are more often sound: most of these are passed over.
		if pruned, _ := scope.Prune(g); Size(pruned) > 20 || d.roll(8) == 0 {
			return g
		}
	}
}

// checkForm holds a lean grammar to the judge's, and to places that are 0 (P14.1).
func checkForm(t *testing.T, g, out api.Grammar) {
	t.Helper()
	if got, want := printed(t, out), printed(t, judge{t, g}.grammar()); got != want || places(out) != 0 {
		t.Errorf("%s: %s, not %s (%d)", shown(g), got, want, places(out))
	}
}

// checkLess holds a lean grammar to P14.5, and to be sound (P14.4).
func checkLess(t *testing.T, g, out api.Grammar) {
	t.Helper()
	if err := sound.Check(out); err != nil {
		t.Error(shown(g), shown(out), err)
	}
	if len(out.Rules) > len(g.Rules) || Size(out) > Size(g) || len(printed(t, out)) > len(printed(t, g)) {
		t.Error(shown(g), "has less than", shown(out))
	}
}

// checkSame holds each rule that is left to end where it did, at every place of a text (P14.4); it tells how many places there were.
func checkSame(t *testing.T, g, out api.Grammar, text string) int {
	t.Helper()
	places := 0
	for i, rule := range out.Rules {
		old := scope.Find(g, rule.Name)
		for at := range len(text) + 1 {
			want, _, err := ford.Match(g, old, text, at, 50000)
			if err != nil {
				continue
			}
			places++
			if end, _, err := ford.Match(out, i, text, at, api.MaxSteps); end != want || err != nil {
				t.Errorf("%s: %s of %q at %d: %d, not %d, by %s (%v)", shown(g), rule.Name, text, at, end, want, shown(out), err)
			}
		}
	}
	return places
}

// P14.1, P14.4, P14.5: drawn grammars, against the chapter told another way, and against what they mean.
func TestDrawnGrammars(t *testing.T) {
	d := dice(14)
	fewer, shorter, great, matches := 0, 0, 0, 0
	for range 2500 {
		g := d.sound()
		out := leaned(t, g)
		checkForm(t, g, out)
		checkLess(t, g, out)
		twice := leaned(t, out)
		checkForm(t, out, twice)
		checkLess(t, out, twice)
		for range 3 {
			text := d.text(d.roll(6))
			matches += checkSame(t, g, out, text)
			checkSame(t, out, twice, text)
		}
		if len(out.Rules) < len(g.Rules) {
			fewer++
		}
		if Size(out) < Size(g) {
			shorter++
		}
		if Size(out) > 10 {
			great++
		}
	}
	if fewer < 1000 || shorter < 1500 || great < 500 || matches < 30000 {
		t.Error("few grammars of a kind:", fewer, shorter, great, matches)
	}
}

// P14.1, P14.4, P14.5: drawn choices of parts that are often alike, or singles.
func TestDrawnChoices(t *testing.T) {
	d := dice(41)
	parts := []string{"'x'", "'y'", "'\\''", "[']", "[xy]", "[x]", ".", "m", "m m", "(m / 'x')", "('z' / m)", "n", "f", "[]", "'xy'", "('x' / 'y')", "(m / n)", "(f / 'y')", "s", "!m", "[^x]"}
	again := 0
	for range 2000 {
		source := "a <- 'z'"
		for range 1 + d.roll(9) {
			source += " / " + parts[d.roll(len(parts))]
		}
		g := parsed(t, source+" f <- 'x' f s <- 'x'* m <- 'm' / !. n <- 'n' / !.")
		out := leaned(t, g)
		checkForm(t, g, out)
		checkLess(t, g, out)
		twice := leaned(t, out)
		checkForm(t, out, twice)
		checkLess(t, out, twice)
		checkSame(t, g, out, "mx'")
		checkSame(t, g, twice, "yzn")
		if Size(twice) < Size(out) {
			again++
		}
	}
	if again < 5 {
		t.Error("few grammars can be leaner still:", again)
	}
}

// P14.5: what can be leaner still is, when it is made lean again.
func TestLeanAgain(t *testing.T) {
	out := leaned(t, parsed(t, "a <- 'x' / 'y' / m / [xy] m <- 'm' / !."))
	twice := leaned(t, out)
	if printed(t, out) != "a <- [xy] / m / [xy]\nm <- 'm' / !.\n" || printed(t, twice) != "a <- [xy] / m\nm <- 'm' / !.\n" {
		t.Error(printed(t, out), printed(t, twice))
	}
}

// P14.4: some grammars, at all short texts.
func TestAllShortTexts(t *testing.T) {
	for _, source := range []string{
		"s <- (a / () / b)? !(!b) c a <- 'x' 'y' / [x] / 'z' / a_ a_ <- (&'y')? 'y' ('x' ()) b <- !(&'y') / 'y' 'x' c <- (b 'z')* (('x'+)+)?",
		"s <- (a+)? (b?)? 'z' / .* a <- 'x' / 'y' / [xy] 'z' b <- [] / 'z' / a",
		"s <- !(a !(a)) ('x' / 'y' / [xz] / 'zz' / .)* a <- 'x' ([] / 'y')* 'y'",
		"s <- 'x' s 'y' / 'x' / 'x' s / s_ s_ <- 'y' ('y' / (() / s))? 'z' &(!(!()))",
	} {
		g := parsed(t, source)
		out := leaned(t, g)
		if Size(out) >= Size(g) {
			t.Error(source, shown(out))
		}
		texts := []string{""}
		for i := 0; i < len(texts) && len(texts[i]) < 5; i++ {
			checkSame(t, g, out, texts[i])
			for _, b := range []string{"x", "y", "z"} {
				texts = append(texts, texts[i]+b)
			}
		}
	}
}

// P14.5: all classes of two and three singles that stand side by side are no longer than these.
func TestSinglesGetNoLonger(t *testing.T) {
	d := dice(5)
	signs := []int{0, 9, 10, 13, 31, 32, '&', '\'', '(', ',', '-', '.', '0', '1', '2', 'Z', '[', '\\', ']', '^', '_', '`', 'a', '~', 127, 128, 254, 255}
	one := func() api.Node {
		from := signs[d.roll(len(signs))]
		c, _ := class.Range(from, min(255, from+d.roll(4)))
		if d.roll(3) == 0 {
			return lit(string([]byte{byte(from)}))
		}
		return api.Node{Kind: api.Set, Class: c}
	}
	for range 5000 {
		g := ruled(api.Rule{Name: "a", Body: over(api.Alt, one(), one(), one())})
		out := leaned(t, g)
		checkForm(t, g, out)
		checkLess(t, g, out)
	}
}

// checkSource holds Grammar to the chapter at a source's tree.
func checkSource(t *testing.T, source, text string) {
	g, err := syntax.Parse(source)
	if err != nil || len(source) > 400 || len(text) > 20 {
		return
	}
	if want := sound.Check(g); want != nil {
		if out, err := Grammar(g); out.Rules != nil || api.Code(err) != api.Code(want) || api.At(err) != api.At(want) {
			t.Error(source, out, err, "not", want)
		}
		return
	}
	out := leaned(t, g)
	checkForm(t, g, out)
	checkLess(t, g, out)
	checkLess(t, out, leaned(t, out))
	checkSame(t, g, out, text)
}

func FuzzLean(f *testing.F) {
	for _, s := range []string{
		"a <- 'x' ('y' () 'z') / [a] / 'b' / 'c'* / .", "s <- !(!a) &(!a) (a?)? (a+)? a <- 'x'", "a <- ('x' / () / 'y')? 'w' / 'z'", "a <- ['] / '\\'' / [] b",
		"a <- 'x' a / b b <- [] / 'y' b <- .", "a <- ('x'?)*", "a <- a", "a <- [^x] / 'x' 'y' / []+", "a <- (!b / &c)? b <- c* c <- .+",
	} {
		f.Add(s, "xxy'")
	}
	f.Fuzz(checkSource)
}
