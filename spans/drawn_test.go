package spans

import (
	"fmt"
	"slices"
	"strings"
	"testing"

	"muntin/api"
	"muntin/code"
	"muntin/ford"
	"muntin/lex"
	"muntin/packrat"
	"muntin/sound"
	"muntin/syntax"
)

// judge tells the chapter another way: it matches a grammar's expressions by the definition, and hands on the spans of each success as
// it goes; those of a failure are dropped.
type judge struct {
	g    api.Grammar
	text string
}

// of is where an expression ends at a place, or -1; and its spans, so deep.
func (j judge) of(n api.Node, at, deep int) (int, []api.Span) {
	switch n.Kind {
	case api.Empty:
		return at, nil
	case api.Lit:
		if strings.HasPrefix(j.text[at:], n.Text) {
			return at + len(n.Text), nil
		}
	case api.Set, api.Any:
		if at < len(j.text) && (n.Kind == api.Any || n.Class[j.text[at]/64]>>(j.text[at]%64)&1 == 1) {
			return at + 1, nil
		}
	case api.Ref:
		return j.rule(slices.IndexFunc(j.g.Rules, func(rule api.Rule) bool { return rule.Name == n.Text }), at, deep)
	case api.Seq, api.Alt:
		return j.parts(n, at, deep)
	default:
		return j.onePart(n, at, deep)
	}
	return -1, nil
}

// rule is where a rule ends at a place, or -1; and its spans, so deep.
func (j judge) rule(place, at, deep int) (int, []api.Span) {
	end, within := j.of(j.g.Rules[place].Body, at, deep+1)
	if end < 0 {
		return -1, nil
	}
	return end, append([]api.Span{{Rule: place, From: at, To: end, Deep: deep}}, within...)
}

// parts is of for a row and for a choice.
func (j judge) parts(n api.Node, at, deep int) (int, []api.Span) {
	var all []api.Span
	for _, sub := range n.Subs {
		end, l := j.of(sub, at, deep)
		switch {
		case end >= 0 && n.Kind == api.Alt:
			return end, l
		case end < 0 && n.Kind == api.Seq:
			return -1, nil
		case end >= 0:
			at, all = end, append(all, l...)
		}
	}
	if n.Kind == api.Alt {
		return -1, nil
	}
	return at, all
}

// onePart is of for an expression of one part.
func (j judge) onePart(n api.Node, at, deep int) (int, []api.Span) {
	end, l := j.of(n.Subs[0], at, deep)
	switch {
	case n.Kind == api.And || n.Kind == api.Not:
		if (end >= 0) != (n.Kind == api.And) {
			return -1, nil
		}
		return at, nil
	case end < 0 && n.Kind == api.Plus:
		return -1, nil
	case end < 0:
		return at, nil
	case n.Kind == api.Opt:
		return end, l
	}
	all := l
	for end >= 0 {
		at = end
		end, l = j.of(n.Subs[0], at, deep)
		all = append(all, l...)
	}
	return at, all
}

// dice are numbers that look like chance, the same ones in every run.
type dice uint64

// roll is a number below n.
func (d *dice) roll(n int) int {
	*d = *d*6364136223846793005 + 1442695040888963407
	return int(*d>>33) % n
}

// text is one of so many letters.
func (d *dice) text(long int) string {
	var out strings.Builder
	for range long {
		out.WriteByte("xxyyz"[d.roll(5)])
	}
	return out.String()
}

// node is a tree, up to so many nodes deep, of names of rules up to a number; names are more likely than other kinds.
func (d *dice) node(deep, names int) api.Node {
	kind := 1 + d.roll(12)
	if deep == 0 {
		kind = 1 + d.roll(5)
	}
	if d.roll(4) == 0 {
		kind = api.Ref
	}
	n := api.Node{Kind: kind}
	switch {
	case kind == api.Lit:
		n.Text = d.text(d.roll(3))
	case kind == api.Set:
		for _, b := range []byte(d.text(1 + d.roll(3))) {
			n.Class[b/64] |= 1 << (b % 64)
		}
	case kind == api.Ref:
		n.Text = name(d.roll(names))
	case kind == api.Seq || kind == api.Alt:
		for range 2 + d.roll(3) {
			n.Subs = append(n.Subs, d.node(deep-1, names))
		}
	case kind > api.Alt:
		n.Subs = []api.Node{d.node(deep-1, names)}
	}
	return n
}

// start is a tree with another one in it, and with names around that.
func (d *dice) start(n api.Node, names int) api.Node {
	ref := func() api.Node { return api.Node{Kind: api.Ref, Text: name(d.roll(names))} }
	some := api.Node{Kind: api.Opt + d.roll(3), Subs: []api.Node{ref()}}
	return api.Node{Kind: api.Seq, Subs: []api.Node{some, n, {Kind: api.Opt, Subs: []api.Node{ref()}}}}
}

// sound is a sound grammar of up to five rules.
func (d *dice) sound() api.Grammar {
	for {
		var g api.Grammar
		count := 1 + d.roll(5)
		for i := range count {
			body := d.node(1+d.roll(3), count)
			if i == 0 {
				body = d.start(body, count)
			}
			g.Rules = append(g.Rules, api.Rule{Name: name(i), Body: body})
		}
		if sound.Check(g) == nil {
			return g
		}
	}
}

// tally is how many texts were accepted or not, how many had too many spans or took too long by the definition; and of all that were
// accepted how many spans, and how deep the deepest one was.
type tally struct{ in, out, many, slow, spans, deep int }

// check holds all three calls to the chapter at a text.
func (c *tally) check(t *testing.T, g api.Grammar, p api.Program, text string) {
	t.Helper()
	is, _, err := packrat.Accepts(p, text, api.MaxSteps)
	if err != nil {
		t.Fatal(shown(p), err)
	}
	l, got, err := Tree(p, text, api.MaxSteps)
	if err != nil {
		c.many++
		if !is || api.Code(err) != api.ErrBudget {
			t.Errorf("%s: %q: %v", shown(p), text, err)
		}
	} else if got != is || Right(l) != is {
		t.Errorf("%s: %q: %v %v, not %v", shown(p), text, l, got, is)
	}
	c.count(is, l)
	// Beyond so many steps the judge would not end soon.
	if _, _, slow := ford.Accepts(g, text, 20000); slow != nil {
		c.slow++
	} else {
		c.checkSpans(t, g, p, text, l, is)
	}
	if is && err == nil {
		checkEnds(t, p, text, l)
		checkLines(t, p, text, l)
	}
}

// count takes an answer into account.
func (c *tally) count(is bool, l []api.Span) {
	if !is {
		c.out++
		return
	}
	c.in++
	c.spans += len(l)
	for _, s := range l {
		c.deep = max(c.deep, s.Deep)
	}
}

// checkSpans holds spans to the judge's (P13.1, P13.6).
func (c *tally) checkSpans(t *testing.T, g api.Grammar, p api.Program, text string, l []api.Span, is bool) {
	t.Helper()
	end, want := judge{g: g, text: text}.rule(0, 0, 0)
	if (end == len(text)) != is {
		t.Errorf("%s: %q: %v, but it ends at %d", shown(p), text, is, end)
	}
	if !is || len(want) > api.MaxSpans {
		want = nil
	}
	if !slices.Equal(l, want) {
		t.Errorf("%s: %q: %v, not %v", shown(p), text, l, want)
	}
}

// checkEnds holds spans to P13.5: the first one is all; each rule, matched where it begins, ends where it ends.
func checkEnds(t *testing.T, p api.Program, text string, l []api.Span) {
	t.Helper()
	if l[0] != (api.Span{To: len(text)}) || !isRight(l) {
		t.Errorf("%s: %q: %v", shown(p), text, l)
	}
	for _, s := range l[:min(len(l), 20)] {
		if end, _, err := packrat.Match(p, s.Rule, text, s.From, api.MaxSteps); end != s.To || err != nil {
			t.Errorf("%s: %q: %v, but that ends at %d %v", shown(p), text, s, end, err)
		}
	}
}

// checkLines holds Text to P13.3 told another way: what stands between the ends of lines is each span's.
func checkLines(t *testing.T, p api.Program, text string, l []api.Span) {
	t.Helper()
	var want []string
	for _, s := range l {
		want = append(want, fmt.Sprintf("%s%s %s\n", strings.Repeat("\t", s.Deep), p.Names[s.Rule], lex.Quote(text[s.From:s.To])))
	}
	lines := strings.Join(want, "")
	if len(lines) > 16*api.MaxText {
		isUnsaid(t, p, l, text, api.ErrLong)
	} else {
		says(t, p, l, text, lines)
	}
}

// P13.1, P13.2, P13.3, P13.5, P13.6: drawn grammars and texts, against the chapter told another way.
func TestDrawnGrammars(t *testing.T) {
	d := dice(13)
	var c tally
	for range 3000 {
		g := d.sound()
		p := program(t, g)
		for range 4 {
			text := d.text(d.roll(9))
			c.check(t, g, p, text)
			// Few texts are accepted; more so up to where the start ends.
			if end, _, err := packrat.Match(p, 0, text, 0, api.MaxSteps); end > 0 && err == nil {
				c.check(t, g, p, text[:end])
			}
		}
	}
	if c.in < 5000 || c.out < 5000 || c.spans < 3*c.in || c.deep < 5 {
		t.Error("few texts of a kind:", c)
	}
}

// P13.1, P13.2, P13.3, P13.5, P13.6: some grammars, at all short texts.
func TestAllShortTexts(t *testing.T) {
	var c tally
	for _, source := range []string{
		"s <- a b? c* !. a <- 'x'+ / 'y' s? 'z' b <- &('xy' / 'z') [xy] / !c . c <- 'y' (a / b 'y')",
		"s <- (a / b)* a <- 'x' s 'y' / 'x' s 'z' b <- 'z' n 'y'? n <- n_ n_ <- ()",
		"s <- (a 'z' / a)+ a <- b 'y' / b b <- 'x' b / 'y' &b / 'x'",
		"s <- (!e .)* e? e <- 'z' (x / y)* x <- 'x'+ y <- 'y' s?",
	} {
		p := made(t, source)
		g, err := code.Grammar(p)
		if err != nil {
			t.Fatal(err)
		}
		texts := []string{""}
		for i := 0; i < len(texts) && len(texts[i]) < 6; i++ {
			c.check(t, g, p, texts[i])
			for _, b := range []string{"x", "y", "z"} {
				texts = append(texts, texts[i]+b)
			}
		}
	}
	if c.in < 300 || c.out < 300 || c.spans < 4*c.in || c.slow > 0 {
		t.Error("few texts of a kind:", c)
	}
}

// P13.1, P13.3, P13.5: longer texts, at some of which the definition takes too many steps.
func TestLongerTexts(t *testing.T) {
	d := dice(4)
	var c tally
	for _, source := range []string{
		sums, "a <- b 'x' / b 'y' / b b <- '(' a ')' / 'z'", "a <- (b / .)* b <- 'x' b 'y' / 'y' b 'x' / 'xy' / 'yx'", "a <- (!b .)* b? 'y'* b <- &(.* 'z') 'xy'", "a <- 'x' a 'y' / 'x' a 'z' / b* b <- .",
	} {
		p := made(t, source)
		g, err := code.Grammar(p)
		if err != nil {
			t.Fatal(err)
		}
		for long := 10; long < 200; long += 30 {
			deep := strings.Repeat("(", long) + "z" + strings.Repeat(")", long)
			for _, text := range []string{d.text(long), deep, strings.ReplaceAll(deep, "z", "1+2"), strings.Repeat("x", long), strings.Repeat("1+", long) + "1"} {
				c.check(t, g, p, text)
			}
		}
	}
	if c.in < 30 || c.out < 30 || c.slow < 5 || c.deep < 100 {
		t.Error("few texts of a kind:", c)
	}
}

// change changes one of a program's numbers or texts.
func (d *dice) change(p *api.Program) {
	op := &p.Ops[d.roll(len(p.Ops))]
	switch d.roll(4) {
	case 0:
		op.Kind = d.roll(14)
	case 1:
		op.Text = d.text(d.roll(3))
	case 2:
		if len(op.Subs) > 0 {
			op.Subs[d.roll(len(op.Subs))] = d.roll(len(p.Ops)+2) - 1
		}
	case 3:
		p.Roots[d.roll(len(p.Roots))] = d.roll(len(p.Ops)+2) - 1
	}
}

// P13.1, P13.3: programs that were changed: ErrProgram, if code.Grammar tells it; else they are told as they are.
func TestChangedPrograms(t *testing.T) {
	d := dice(7)
	var c tally
	refused := 0
	for range 3000 {
		p := program(t, d.sound())
		d.change(&p)
		text := d.text(d.roll(5))
		g, err := code.Grammar(p)
		if err != nil {
			refused++
			isRefused(t, p, text, 1000, api.ErrProgram)
			isUnsaid(t, p, row(0, 0, len(text), 0), text, api.ErrProgram)
			continue
		}
		c.check(t, g, p, text)
	}
	if refused < 500 || c.in+c.out < 500 {
		t.Error("few programs of a kind:", refused, c)
	}
}

// checkSource holds all calls to the chapter at a source's program.
func checkSource(t *testing.T, source, text string, most int) {
	g, err := syntax.Parse(source)
	if err != nil || len(source) > 300 || len(text) > 60 {
		return
	}
	p, err := code.Make(g)
	if err != nil {
		isRefused(t, p, text, most, api.ErrProgram)
		return
	}
	if is, _, err := packrat.Accepts(p, text, most); err != nil {
		isRefused(t, p, text, most, api.Code(err))
	} else if !is {
		hasNone(t, p, text, most)
	}
	var c tally
	c.check(t, g, p, text)
}

func FuzzSpans(f *testing.F) {
	for _, s := range []string{sums, "a <- 'x' a / 'y'", "a <- (!'y' .)* &'y' b? b <- [x-z]+", "a <- a", "a <- ('x'?)*", "a <- b b b <- c* c <- .", "a <- () / . ''"} {
		f.Add(s, "xxy", 9)
		f.Add(s, "1+(2)", 100)
	}
	f.Fuzz(checkSource)
}
