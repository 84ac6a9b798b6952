package compat

import (
	"slices"
	"strings"
	"testing"

	"muntin/api"
	"muntin/class"
	"muntin/code"
	"muntin/ford"
	"muntin/sound"
	"muntin/syntax"
)

// judge tells the chapter another way: clause by clause, of all pairs again and again, until none is struck out any more.
type judge struct {
	old, new      api.Program
	alike, beyond [][]bool // of each older operation and each newer one
}

// judged is what the chapter says of two programs.
func judged(old, new api.Program) *judge {
	j := &judge{old: old, new: new}
	table := func() [][]bool {
		out := make([][]bool, len(old.Ops))
		for i := range out {
			out[i] = slices.Repeat([]bool{true}, len(new.Ops))
		}
		return out
	}
	j.alike, j.beyond = table(), table()
	strike(j.alike, j.sameClauses)
	strike(j.beyond, j.extendClauses)
	return j
}

// strike strikes out what none of the clauses holds of.
func strike(table [][]bool, clauses func(a, b int) []bool) {
	for isNew := true; isNew; {
		isNew = false
		for a := len(table) - 1; a >= 0; a-- {
			for b := range table[a] {
				if table[a][b] && !slices.Contains(clauses(a, b), true) {
					table[a][b], isNew = false, true
				}
			}
		}
	}
}

// rootOf is the root of a Ref's rule; of another operation any place.
func rootOf(p api.Program, place int) int {
	if op := p.Ops[place]; op.Kind == api.Ref {
		return p.Roots[op.Subs[0]]
	}
	return 0
}

// sameClauses tells of each of the clauses of "are the same" whether it holds.
func (j *judge) sameClauses(a, b int) []bool {
	x, y := j.old.Ops[a], j.new.Ops[b]
	isRef, isToo := x.Kind == api.Ref, y.Kind == api.Ref
	return []bool{
		isRef && j.alike[rootOf(j.old, a)][b],
		!isRef && isToo && j.alike[a][rootOf(j.new, b)],
		!isRef && !isToo && x.Kind == y.Kind && x.Text == y.Text && x.Class == y.Class && len(x.Subs) == len(y.Subs) && j.row(j.alike, x, y, len(x.Subs)),
	}
}

// row tells whether the first parts, so many of both, stand in a table.
func (j *judge) row(table [][]bool, x, y api.Op, many int) bool {
	for i := range many {
		if !table[x.Subs[i]][y.Subs[i]] {
			return false
		}
	}
	return true
}

// extendClauses tells of each of the clauses of "extends" whether it holds.
func (j *judge) extendClauses(a, b int) []bool {
	x, y := j.old.Ops[a], j.new.Ops[b]
	isRef, isToo := x.Kind == api.Ref, y.Kind == api.Ref
	last := len(x.Subs) - 1
	return []bool{
		isRef && j.beyond[rootOf(j.old, a)][b],
		!isRef && isToo && j.beyond[a][rootOf(j.new, b)],
		!isRef && !isToo && j.alike[a][b],
		y.Kind == api.Alt && x.Kind != api.Alt && j.beyond[a][y.Subs[0]],
		y.Kind == api.Alt && x.Kind == api.Alt && len(x.Subs) <= len(y.Subs) && j.row(j.alike, x, y, last) && j.beyond[x.Subs[last]][y.Subs[last]],
		y.Kind == api.Seq && x.Kind == api.Seq && len(x.Subs) == len(y.Subs) && j.row(j.beyond, x, y, len(x.Subs)),
		isFewer(x, y),
		y.Kind == api.And && x.Kind == api.And && j.beyond[x.Subs[0]][y.Subs[0]],
		y.Kind == api.Opt && !isRef && j.beyond[a][y.Subs[0]],
		y.Kind == api.Star && x.Kind == api.Plus && j.alike[x.Subs[0]][y.Subs[0]],
	}
}

// isFewer tells whether both are singles, and each byte that the first one takes the second one takes.
func isFewer(x, y api.Op) bool {
	takes := func(op api.Op, b byte) bool {
		return op.Kind == api.Any || op.Kind == api.Set && class.Has(op.Class, b) || op.Kind == api.Lit && op.Text == string([]byte{b})
	}
	isOne := func(op api.Op) bool {
		return op.Kind == api.Any || op.Kind == api.Set || op.Kind == api.Lit && len(op.Text) == 1
	}
	for b := range 256 {
		if takes(x, byte(b)) && !takes(y, byte(b)) {
			return false
		}
	}
	return isOne(x) && isOne(y)
}

// many is how many pairs stand in a table.
func many(table [][]bool) int {
	n := 0
	for _, row := range table {
		for _, is := range row {
			if is {
				n++
			}
		}
	}
	return n
}

// dice are numbers that look like chance, the same ones in every run.
type dice uint64

// roll is a number below n.
func (d *dice) roll(n int) int {
	*d = *d*6364136223846793005 + 1442695040888963407
	return int(*d>>33) % n
}

// text is one of so many letters.
func (d *dice) text(long int) string {
	var out strings.Builder
	for range long {
		out.WriteByte("xxyyz"[d.roll(5)])
	}
	return out.String()
}

// class is a set of a few letters, or of all other bytes.
func (d *dice) class() api.Class {
	var out api.Class
	for _, b := range []byte(d.text(d.roll(4))) {
		out[b/64] |= 1 << (b % 64)
	}
	if d.roll(6) == 0 {
		return class.Not(out)
	}
	return out
}

// kind is one of an expression: of one with parts, if it may have some.
func (d *dice) kind(parts bool) int {
	if !parts {
		return []int{api.Lit, api.Lit, api.Lit, api.Set, api.Set, api.Ref, api.Ref, api.Any, api.Empty}[d.roll(9)]
	}
	return []int{api.Seq, api.Seq, api.Seq, api.Alt, api.Alt, api.Alt, api.Opt, api.Star, api.Plus, api.Plus, api.And, api.Not}[d.roll(12)]
}

// node is a tree, up to so many nodes deep, of names of some rules: mostly those from a place on, so that few begin with themselves.
func (d *dice) node(deep, from, names int) api.Node {
	n := api.Node{Kind: d.kind(deep > 0 && d.roll(4) > 0)}
	switch n.Kind {
	case api.Lit:
		n.Text = d.text((2 + d.roll(5)) / 3)
	case api.Set:
		n.Class = d.class()
	case api.Ref:
		n.Text = name(min(from, names-1) + d.roll(max(1, names-from)))
		if d.roll(6) == 0 {
			n.Text = name(d.roll(names))
		}
	case api.Seq, api.Alt:
		for range 2 + d.roll(3) {
			n.Subs = append(n.Subs, d.node(deep-1, from, names))
		}
	case api.Opt, api.Star, api.Plus, api.And, api.Not:
		n.Subs = []api.Node{d.node(deep-1, from, names)}
	}
	return n
}

// sound is a sound grammar of up to four rules.
func (d *dice) sound() api.Grammar {
	for {
		var g api.Grammar
		count := 1 + d.roll(4)
		for i := range count {
			g.Rules = append(g.Rules, api.Rule{Name: name(i), Body: d.node(1+d.roll(3), i+1, count)})
		}
		// Small grammars are more often sound: most of these are passed over.
		if p, err := code.Make(g); err == nil && (len(p.Ops) > 8 || d.roll(8) == 0) {
			return g
		}
	}
}

// changed is a grammar with some changes, most of which the gate might let follow.
func (d *dice) changed(g api.Grammar) api.Grammar {
	for {
		out := api.Grammar{Rules: slices.Clone(g.Rules)}
		for range d.roll(4) {
			i := d.roll(len(out.Rules))
			out.Rules[i].Body = d.turned(&out, out.Rules[i].Body)
		}
		if sound.Check(out) == nil {
			return out
		}
	}
}

// turned is an expression with a change somewhere within it.
func (d *dice) turned(g *api.Grammar, n api.Node) api.Node {
	isOpen := n.Kind == api.Seq || n.Kind == api.Alt || n.Kind == api.And // to changes of a part
	if len(n.Subs) > 0 && (isOpen && d.roll(4) > 0 || d.roll(8) == 0) {
		n.Subs = slices.Clone(n.Subs)
		i := d.roll(len(n.Subs))
		if n.Kind == api.Alt && d.roll(4) > 0 {
			i = len(n.Subs) - 1
		}
		n.Subs[i] = d.turned(g, n.Subs[i])
		return n
	}
	drawn := d.node(1, 0, len(g.Rules))
	switch d.roll(12) {
	case 0, 1:
		return over(api.Opt, n)
	case 2, 3:
		return over(api.Alt, n, drawn)
	case 4:
		return drawn
	case 5:
		g.Rules = append(g.Rules, api.Rule{Name: name(len(g.Rules)), Body: n})
		return ref(name(len(g.Rules) - 1))
	}
	return d.own(g, n)
}

// own is an expression with a change that is of its kind.
func (d *dice) own(g *api.Grammar, n api.Node) api.Node {
	switch n.Kind {
	case api.Alt:
		n.Subs = append(slices.Clone(n.Subs), d.node(1, 0, len(g.Rules)))
		if d.roll(5) == 0 {
			n.Subs = n.Subs[1:]
		}
	case api.Plus:
		n.Kind = api.Star
	case api.Ref:
		for _, rule := range g.Rules {
			if rule.Name == n.Text {
				return rule.Body
			}
		}
	case api.Lit, api.Set:
		if len(n.Text) == 1 {
			n.Class[n.Text[0]/64] = 1 << (n.Text[0] % 64)
		}
		if n.Kind == api.Set || len(n.Text) == 1 {
			return api.Node{Kind: api.Set, Class: class.Either(n.Class, d.class())}
		}
	}
	return n
}

// tally counts what was seen.
type tally struct{ same, gate, none, ends, fails int }

// checkPrograms holds all calls to the judge, and says what that says.
func (c *tally) checkPrograms(t *testing.T, old, new api.Program) *judge {
	t.Helper()
	j := judged(old, new)
	a, b := old.Roots[0], new.Roots[0]
	follows(t, old, new, j.beyond[a][b], j.alike[a][b])
	counts(t, old, new, many(j.beyond), many(j.alike))
	switch {
	case j.alike[a][b]:
		c.same++
	case j.beyond[a][b]:
		c.gate++
	default:
		c.none++
	}
	return j
}

// checkRules holds each rule that extends another one, or is the same, to end where that does, at every place of a text (P15.4).
func (c *tally) checkRules(t *testing.T, j *judge, text string) {
	t.Helper()
	g, err := code.Grammar(j.old)
	h, bad := code.Grammar(j.new)
	if err != nil || bad != nil {
		t.Fatal(err, bad)
	}
	for i, a := range j.old.Roots {
		for k, b := range j.new.Roots {
			if !j.beyond[a][b] {
				continue
			}
			for at := range len(text) + 1 {
				want, _, err := ford.Match(g, i, text, at, 5000)
				end, _, bad := ford.Match(h, k, text, at, 5000)
				if err != nil || bad != nil {
					continue
				}
				if want < 0 {
					c.fails++
				} else {
					c.ends++
				}
				if end != want && (want >= 0 || j.alike[a][b]) {
					t.Errorf("%s to %s: %d, %d of %q at %d: %d, not %d", shown(j.old), shown(j.new), i, k, text, at, end, want)
				}
			}
		}
	}
}

// P15.1, P15.2, P15.4: drawn grammars, and such as come of them, against the chapter told another way, and against what they mean.
func TestDrawnGrammars(t *testing.T) {
	d := dice(15)
	var c tally
	for range 1000 {
		g := d.sound()
		p, q, r := program(t, g), program(t, d.changed(g)), program(t, d.changed(g))
		for _, pair := range [][2]api.Program{{p, p}, {p, q}, {q, p}, {q, r}} {
			j := c.checkPrograms(t, pair[0], pair[1])
			for range 2 {
				c.checkRules(t, j, d.text(d.roll(6)))
			}
		}
		c.checkPrograms(t, q, program(t, d.sound()))
	}
	if c.same < 1500 || c.gate < 300 || c.none < 1500 || c.ends < 30000 || c.fails < 30000 {
		t.Error("few of a kind:", c)
	}
}

// P15.4: what the gate lets follow accepts all short texts that were accepted.
func TestAllShortTexts(t *testing.T) {
	const rules = " b <- 'x' c? / !'y' [yz] / 'y' 'z' c <- &b ('z' / 'x') / 'y'+"
	gates := 0
	bodies := []string{"'x' / b", "'x' / b c", "('x' / b / c)", "b / c", "b", "b / 'y'", "(b / 'y')?", "b*", "b+", "[xy]+ b", "[xy]* b", "[xyz]* b", "&b .", "&b . / 'z'", "!b .", "(b / c) !.", "(b / c / 'zz') !.", "(b / c?) !.", "b? c", "b? c?", "'x'+ c", "'x'* c?", "'x' b 'y'", "[xz] b .", ". (b / 'z') .?"}
	for _, old := range bodies {
		for _, new := range bodies {
			p, q := made(t, "a <- "+old+rules), made(t, "a <- "+new+rules)
			is, err := Gate(p, q)
			if err != nil {
				t.Error(old, new, err)
			}
			if !is {
				continue
			}
			gates++
			g, h := parsed(t, "a <- "+old+rules), parsed(t, "a <- "+new+rules)
			texts := []string{""}
			for i := 0; i < len(texts) && len(texts[i]) < 5; i++ {
				was, _, err := ford.Accepts(g, texts[i], api.MaxSteps)
				end, _, bad := ford.Match(h, 0, texts[i], 0, api.MaxSteps)
				if was && end != len(texts[i]) || err != nil || bad != nil {
					t.Error(old, new, texts[i], err, bad)
				}
				for _, b := range []string{"x", "y", "z"} {
					texts = append(texts, texts[i]+b)
				}
			}
		}
	}
	if gates < len(bodies)+14 {
		t.Error("few gates:", gates)
	}
}

// P15.5: each drawn program follows itself, also with more rules behind; and one more alternative at the end of its start's choice.
func TestDrawnGatesAreNotEmpty(t *testing.T) {
	d := dice(5)
	choices := 0
	for range 600 {
		g := d.sound()
		p := program(t, g)
		follows(t, p, p, true, true)
		more := api.Grammar{Rules: slices.Clone(g.Rules)}
		for _, rule := range d.sound().Rules {
			more.Rules = append(more.Rules, api.Rule{Name: "more" + rule.Name, Body: renamed(rule.Body, "more")})
		}
		follows(t, p, program(t, more), true, true)
		follows(t, program(t, more), p, true, true)
		start := func(parts ...api.Node) api.Grammar {
			body := over(api.Seq, over(api.Alt, parts...), over(api.Not, bare(api.Any)))
			return api.Grammar{Rules: append([]api.Rule{{Name: "start", Body: body}}, g.Rules...)}
		}
		one, two, three := d.node(2, 0, len(g.Rules)), d.node(2, 0, len(g.Rules)), d.node(2, 0, len(g.Rules))
		if older, newer := start(one, two), start(one, two, three); sound.Check(newer) == nil {
			choices++
			follows(t, program(t, older), program(t, newer), true, false)
		}
	}
	if choices < 200 {
		t.Error("few choices:", choices)
	}
}

// renamed is an expression with other names: the same ones behind some letters.
func renamed(n api.Node, letters string) api.Node {
	if n.Kind == api.Ref {
		return ref(letters + n.Text)
	}
	n.Subs = slices.Clone(n.Subs)
	for i, sub := range n.Subs {
		n.Subs[i] = renamed(sub, letters)
	}
	return n
}

// P15.6: the same as the same is the same, in both directions; and names say nothing.
func TestTheSameAsTheSame(t *testing.T) {
	d := dice(6)
	const sames = 300
	for range sames {
		g := d.sound()
		steps := []api.Program{program(t, g)}
		for range 3 {
			g = d.same(g)
			steps = append(steps, program(t, g))
		}
		for _, p := range steps {
			for _, q := range steps {
				follows(t, p, q, true, true)
			}
		}
	}
}

// same is a grammar that is the same: with other names, a rule of its own for each of some expressions, and some rules' bodies in place
// of their names.
func (d *dice) same(g api.Grammar) api.Grammar {
	var out api.Grammar
	for _, rule := range g.Rules {
		out.Rules = append(out.Rules, api.Rule{Name: "s" + rule.Name, Body: renamed(rule.Body, "s")})
	}
	for i := range g.Rules {
		out.Rules[i].Body = d.folded(&out, out.Rules[i].Body)
	}
	if d.roll(2) == 0 {
		slices.Reverse(out.Rules[1:])
	}
	return out
}

// folded is an expression in which some are rules, and some rules are expressions.
func (d *dice) folded(g *api.Grammar, n api.Node) api.Node {
	switch {
	case d.roll(6) == 0:
		named := "n" + name(len(g.Rules))
		g.Rules = append(g.Rules, api.Rule{Name: named, Body: n})
		return ref(named)
	case n.Kind == api.Ref && d.roll(3) == 0:
		for _, rule := range g.Rules {
			if rule.Name == n.Text {
				return rule.Body
			}
		}
	}
	n.Subs = slices.Clone(n.Subs)
	for i, sub := range n.Subs {
		n.Subs[i] = d.folded(g, sub)
	}
	return n
}

// P15.1, P15.2: programs that were changed: ErrProgram, if code.Grammar tells it; else they are held against each other as they are.
func TestChangedPrograms(t *testing.T) {
	d := dice(7)
	var c tally
	refused := 0
	for range 3000 {
		p, q := program(t, d.sound()), program(t, d.sound())
		for range 1 + d.roll(2) {
			d.change(&q)
		}
		if _, err := code.Grammar(q); err != nil {
			refused++
			isRefused(t, p, q)
			isRefused(t, q, p)
			continue
		}
		c.checkPrograms(t, p, q)
		c.checkPrograms(t, q, p)
	}
	if refused < 1000 || c.same+c.gate+c.none < 900 {
		t.Error("few programs of a kind:", refused, c)
	}
}

// change changes one of a program's numbers or texts.
func (d *dice) change(p *api.Program) {
	op := &p.Ops[d.roll(len(p.Ops))]
	switch d.roll(5) {
	case 0:
		op.Kind = d.roll(14)
	case 1:
		op.Text = d.text(d.roll(3))
	case 2:
		if len(op.Subs) > 0 {
			op.Subs[d.roll(len(op.Subs))] = d.roll(len(p.Ops)+2) - 1
		}
	case 3:
		p.Roots[d.roll(len(p.Roots))] = d.roll(len(p.Ops)+2) - 1
	case 4:
		op.Class[1] ^= 1 << (d.roll(3) + 'x' - 64)
	}
}

// checkSources holds all calls to the chapter at two sources' programs.
func checkSources(t *testing.T, old, new, text string) {
	if len(old) > 200 || len(new) > 200 || len(text) > 40 {
		return
	}
	g, err := syntax.Parse(old)
	h, bad := syntax.Parse(new)
	if err != nil || bad != nil {
		return
	}
	p, err := code.Make(g)
	q, bad := code.Make(h)
	if err != nil || bad != nil {
		isRefused(t, p, q)
		return
	}
	var c tally
	c.checkRules(t, c.checkPrograms(t, p, q), text)
}

func FuzzCompat(f *testing.F) {
	sources := []string{"a <- ('x' / 'y') !.", "a <- ('x' / [yz] / 'w') !.", "a <- 'x' b !. b <- 'y'", "a <- [xy] b? !. b <- 'y'", "a <- 'x'+ !b . b <- &a 'x'", "a <- 'x'* a? b <- 'y' / b", "a <- 'x' (a / 'y')"}
	for _, old := range sources {
		for _, new := range sources {
			f.Add(old, new, "xyx")
		}
	}
	f.Fuzz(checkSources)
}
