package packrat

import (
	"slices"
	"strings"
	"testing"

	"muntin/api"
	"muntin/code"
	"muntin/ford"
	"muntin/printer"
	"muntin/sound"
	"muntin/syntax"
)

// spot is an expression, told by its text, at a place.
type spot struct {
	text string
	at   int
}

// judge tells the chapter another way: it matches the grammar's expressions, not numbers, and takes those as one operation whose texts
// are the same; each spot that it has come to is a note.
type judge struct {
	g     api.Grammar
	text  string
	texts map[*api.Node]string
	ends  map[spot]int
}

func judgeOf(g api.Grammar, text string, texts map[*api.Node]string) *judge {
	return &judge{g: g, text: text, texts: texts, ends: map[spot]int{}}
}

// of is where an expression ends at a place, or -1.
func (j *judge) of(n *api.Node, at int) int {
	text, isKnown := j.texts[n]
	if !isKnown {
		text = printer.Expr(*n)
		j.texts[n] = text
	}
	here := spot{text, at}
	if end, isNoted := j.ends[here]; isNoted {
		return end
	}
	end := j.unnoted(n, at)
	j.ends[here] = end
	return end
}

// unnoted is where an expression ends at a place, told by its parts.
func (j *judge) unnoted(n *api.Node, at int) int {
	switch n.Kind {
	case api.Empty:
		return at
	case api.Lit:
		if rest, is := strings.CutPrefix(j.text[at:], n.Text); is {
			return len(j.text) - len(rest)
		}
	case api.Set, api.Any:
		if at < len(j.text) && (n.Kind == api.Any || n.Class[j.text[at]/64]>>(j.text[at]%64)&1 == 1) {
			return at + 1
		}
	case api.Ref:
		i := slices.IndexFunc(j.g.Rules, func(rule api.Rule) bool { return rule.Name == n.Text })
		return j.of(&j.g.Rules[i].Body, at)
	case api.Seq, api.Alt:
		return j.parts(n, at)
	default:
		return j.onePart(n, at)
	}
	return -1
}

// parts is where a row or a choice ends: a row goes on behind a success, a choice behind a failure.
func (j *judge) parts(n *api.Node, at int) int {
	end := at
	for i := range n.Subs {
		end = j.of(&n.Subs[i], at)
		if (end < 0) == (n.Kind == api.Seq) {
			break
		}
		if n.Kind == api.Seq {
			at = end
		}
	}
	return end
}

// onePart is where an expression of one part ends.
func (j *judge) onePart(n *api.Node, at int) int {
	end := j.of(&n.Subs[0], at)
	is := end >= 0
	switch {
	case n.Kind == api.And && is, n.Kind == api.Not && !is, n.Kind == api.Opt && !is, n.Kind == api.Star && !is:
		return at
	case n.Kind == api.Opt, n.Kind == api.Plus && !is:
		return end
	case n.Kind == api.And, n.Kind == api.Not:
		return -1
	}
	for is {
		at, end = end, j.of(&n.Subs[0], end)
		is = end >= 0
	}
	return at
}

// dice are numbers that look like chance, the same ones in every run.
type dice uint64

// roll is a number below n.
func (d *dice) roll(n int) int {
	*d = *d*6364136223846793005 + 1442695040888963407
	return int(*d>>33) % n
}

// text is one of so many letters.
func (d *dice) text(long int) string {
	var out strings.Builder
	for range long {
		out.WriteByte("xxyyz"[d.roll(5)])
	}
	return out.String()
}

// node is a tree, up to so many nodes deep, of names of rules up to a number.
func (d *dice) node(deep, names int) api.Node {
	kind := 1 + d.roll(12)
	if deep == 0 {
		kind = 1 + d.roll(5)
	}
	n := api.Node{Kind: kind}
	switch {
	case kind == api.Lit:
		n.Text = d.text(d.roll(3))
	case kind == api.Set:
		for _, b := range []byte(d.text(d.roll(3))) {
			n.Class[b/64] |= 1 << (b % 64)
		}
	case kind == api.Ref:
		n.Text = name(d.roll(names))
	case kind == api.Seq || kind == api.Alt:
		for range 2 + d.roll(3) {
			n.Subs = append(n.Subs, d.node(deep-1, names))
		}
	case kind > api.Alt:
		n.Subs = []api.Node{d.node(deep-1, names)}
	}
	return n
}

// sound is a sound grammar of up to five rules.
func (d *dice) sound() api.Grammar {
	for {
		var g api.Grammar
		count := 1 + d.roll(5)
		for i := range count {
			g.Rules = append(g.Rules, api.Rule{Name: name(i), Body: d.node(1+d.roll(3), count)})
		}
		if sound.Check(g) == nil {
			return g
		}
	}
}

// tally is how many matches came to what; and how many made fewer notes than steps.
type tally struct{ zero, some, fail, budget, fewer int }

// checkText holds all rules of a grammar's program to the chapter at each place of a text.
func (c *tally) checkText(t *testing.T, g api.Grammar, p api.Program, text string, texts map[*api.Node]string) {
	t.Helper()
	for rule := range g.Rules {
		for at := range len(text) + 1 {
			c.checkMatch(t, g, p, rule, text, at, texts)
		}
	}
}

// checkMatch holds Match to the judge, to ford's Match (P12.4), to a bound (P12.5), and to what more notes and fewer change (P12.6).
func (c *tally) checkMatch(t *testing.T, g api.Grammar, p api.Program, rule int, text string, at int, texts map[*api.Node]string) {
	t.Helper()
	j := judgeOf(g, text, texts)
	want := j.of(&g.Rules[rule].Body, at)
	notes := len(j.ends)
	ends(t, p, rule, text, at, want, notes)
	if notes > len(p.Ops)*(len(text)+1) {
		t.Errorf("%s: %d of %q at %d: %d notes of %d operations", shown(p), rule, text, at, notes, len(p.Ops))
	}
	if rule == 0 && at == 0 {
		accepts(t, p, text, want == len(text), notes)
	}
	end, steps, err := ford.Match(g, rule, text, at, api.MaxSteps)
	if err == nil && (end != want || notes > steps) {
		t.Errorf("%s: %d of %q at %d: %d with %d notes, but %d in %d steps", shown(p), rule, text, at, want, notes, end, steps)
	}
	c.count(at, want)
	if err != nil {
		c.budget++
	} else if notes < steps {
		c.fewer++
	}
}

// count takes a match into account.
func (c *tally) count(at, end int) {
	switch {
	case end == at:
		c.zero++
	case end > at:
		c.some++
	default:
		c.fail++
	}
}

// P12.1, P12.2, P12.4, P12.5, P12.6: drawn grammars and texts, against the chapter told another way, and against ford.
func TestDrawnGrammars(t *testing.T) {
	d := dice(12)
	var c tally
	for range 800 {
		g := d.sound()
		p, texts := program(t, g), map[*api.Node]string{}
		for range 3 {
			c.checkText(t, g, p, d.text(d.roll(8)), texts)
		}
	}
	if c.zero < 8000 || c.some < 4000 || c.fail < 8000 || c.fewer < 500 {
		t.Error("few matches of a kind:", c)
	}
}

// P12.1, P12.2, P12.4, P12.5, P12.6: one grammar, at all short texts.
func TestAllShortTexts(t *testing.T) {
	p := made(t, "s <- a b? c* !. a <- 'x'+ / 'y' s? 'z' b <- &('xy' / 'z') [xy] / !c . c <- 'y' (a / b 'y')")
	g, err := code.Grammar(p)
	if err != nil {
		t.Fatal(err)
	}
	texts, nodes := []string{""}, map[*api.Node]string{}
	var c tally
	for i := 0; i < len(texts) && len(texts[i]) < 6; i++ {
		c.checkText(t, g, p, texts[i], nodes)
		for _, b := range []string{"x", "y", "z"} {
			texts = append(texts, texts[i]+b)
		}
	}
	if c.zero > 0 || c.some < 1000 || c.fail < 1000 || c.fewer < 1000 {
		t.Error("few matches of a kind:", c)
	}
}

// P12.1, P12.4, P12.5: longer texts, at some of which the definition takes too many steps.
func TestLongerTexts(t *testing.T) {
	d := dice(4)
	var c tally
	for _, source := range []string{
		sums, "a <- b 'x' / b 'y' / b b <- '(' a ')' / 'z'", "a <- 'x' a 'y' / 'x' a 'z' / 'y' a / 'x'?", "a <- (b / .)* b <- 'x' b 'y' / 'y' b 'x' / 'xy' / 'yx'", "a <- (!b .)* b? b <- &(.* 'z') 'xy'",
	} {
		p := made(t, source)
		g, err := code.Grammar(p)
		if err != nil {
			t.Fatal(err)
		}
		texts := map[*api.Node]string{}
		for long := 10; long < 100; long += 30 {
			deep := strings.Repeat("(", long) + "z" + strings.Repeat(")", long)
			for _, text := range []string{d.text(long), d.text(long), deep, strings.Repeat("x", long), strings.Repeat("1+", long) + "1"} {
				c.checkMatch(t, g, p, 0, text, 0, texts)
				c.checkMatch(t, g, p, len(g.Rules)-1, text, long/2, texts)
			}
		}
	}
	if c.budget < 5 || c.fewer < 10 {
		t.Error("few matches of a kind:", c)
	}
}

// change changes one of a program's numbers or texts.
func (d *dice) change(p *api.Program) {
	op := &p.Ops[d.roll(len(p.Ops))]
	switch d.roll(5) {
	case 0:
		op.Kind = d.roll(14)
	case 1:
		op.Text = d.text(d.roll(3))
	case 2:
		if len(op.Subs) > 0 {
			op.Subs[d.roll(len(op.Subs))] = d.roll(len(p.Ops)+2) - 1
		}
	case 3:
		p.Roots[d.roll(len(p.Roots))] = d.roll(len(p.Ops)+2) - 1
	case 4:
		op.Class[1] ^= 1 << (d.roll(3) + 'x' - 64)
	}
}

// P12.1, P12.2: programs that were changed: ErrProgram, if code.Grammar tells it; else they are matched as they are.
func TestChangedPrograms(t *testing.T) {
	d := dice(7)
	var c tally
	refused := 0
	for range 3000 {
		p := program(t, d.sound())
		for range 1 + d.roll(2) {
			d.change(&p)
		}
		text := d.text(d.roll(5))
		g, err := code.Grammar(p)
		if err != nil {
			refused++
			isRefused(t, p, 0, text, 0, 1000, api.ErrProgram)
			continue
		}
		c.checkText(t, g, p, text, map[*api.Node]string{})
	}
	if refused < 1000 || c.zero+c.some+c.fail < 1000 {
		t.Error("few programs of a kind:", refused, c)
	}
}

// checkSource holds both calls to the chapter at a source's program.
func checkSource(t *testing.T, source, text string, rule, at, most int) {
	g, err := syntax.Parse(source)
	if err != nil || len(source) > 300 || len(text) > 60 {
		return
	}
	p, err := code.Make(g)
	if err != nil {
		isRefused(t, p, rule, text, at, most, api.ErrProgram)
		return
	}
	if rule < 0 || rule >= len(g.Rules) || at < 0 || at > len(text) || most < 0 || most > api.MaxSteps {
		isRefused(t, p, rule, text, at, most, api.ErrArg)
		return
	}
	var c tally
	c.checkMatch(t, g, p, rule, text, at, map[*api.Node]string{})
}

func FuzzPackrat(f *testing.F) {
	for _, s := range []string{sums, "a <- 'x' a / 'y'", "a <- (!'y' .)* &'y' b? b <- [x-z]+", "a <- a", "a <- ('x'?)*", "a <- b", "a <- () / . ''"} {
		f.Add(s, "xxy", 0, 0, 9)
		f.Add(s, "1+(2)", 1, 5, 100)
	}
	f.Fuzz(checkSource)
}
