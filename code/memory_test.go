package code

import (
	"fmt"
	"slices"
	"strconv"
	"strings"
	"testing"
	"unsafe"

	"muntin/api"
)

// roomyGrammar is a grammar whose lists have spare room, with something in it.
func roomyGrammar() api.Grammar {
	subs := append(make([]api.Node, 0, 5), over(api.Star, lit(strings.Repeat("xy", 3))), ref(strings.Repeat("be", 2)), lit("xyxyxy"))
	_ = append(subs, bare(99), ref("c"))
	rules := append(make([]api.Rule, 0, 4), api.Rule{Name: strings.Repeat("ab", 2), At: 2, Body: api.Node{Kind: api.Seq, Subs: subs, At: 7}}, api.Rule{Name: strings.Repeat("be", 2), At: 1, Body: lit("yz")})
	_ = append(rules, api.Rule{Name: "c", Body: ref("a")})
	return api.Grammar{Rules: rules}
}

// roomyProgram is its program, whose lists have spare room, with something in it.
func roomyProgram() api.Program {
	room := func(list ...int) []int {
		out := append(make([]int, 0, len(list)+3), list...)
		_ = append(out, 7, -1)
		return out
	}
	ops := append(make([]api.Op, 0, 8), litOp(strings.Repeat("xy", 3)), op(api.Star, room(0)...), op(api.Ref, room(1)...), op(api.Seq, room(1, 2, 0)...), litOp(strings.Repeat("yz", 1)))
	ops[0].Subs, ops[4].Subs = room(), room()
	_ = append(ops, op(99, 5))
	names := append(make([]string, 0, 4), strings.Repeat("ab", 2), strings.Repeat("be", 2))
	_ = append(names, "spare")
	return api.Program{Ops: ops, Names: names, Roots: room(3, 4)}
}

// wholeGrammar and wholeProgram tell all that is in lists, their spare room too.
func wholeGrammar(g api.Grammar) string {
	out := strconv.Itoa(len(g.Rules))
	for _, rule := range g.Rules[:cap(g.Rules)] {
		out += rule.Name + strconv.Itoa(rule.At) + wholeNode(rule.Body)
	}
	return out
}

func wholeNode(n api.Node) string {
	out := fmt.Sprint("(", n.Kind, n.Text, n.Class, n.At, len(n.Subs))
	for _, sub := range n.Subs[:cap(n.Subs)] {
		out += wholeNode(sub)
	}
	return out + ")"
}

func wholeProgram(p api.Program) string {
	out := fmt.Sprint(len(p.Names), p.Names[:cap(p.Names)], len(p.Roots), p.Roots[:cap(p.Roots)], len(p.Ops))
	for _, o := range p.Ops[:cap(p.Ops)] {
		out += fmt.Sprint("(", o.Kind, o.Text, o.Class, len(o.Subs), o.Subs[:cap(o.Subs)], ")")
	}
	return out
}

// P11.4: what is handed in, its spare room too, is as it was, whatever is answered.
func TestNothingIsChanged(t *testing.T) {
	g, p := roomyGrammar(), roomyProgram()
	isProgram(t, g, p)
	b, err := Bytes(p)
	if err != nil {
		t.Fatal(err)
	}
	all := append(slices.Clone(b), strings.Repeat("\xee", 40)...)
	wantG, wantP, wantAll := wholeGrammar(g), wholeProgram(p), string(all)
	wrong := roomyProgram()
	wrong.Ops[3].Subs[2] = 4
	wantWrong := wholeProgram(wrong)
	for range 2 {
		Make(g)
		Grammar(p)
		Bytes(p)
		Grammar(wrong)
		Bytes(wrong)
		for end := range len(b) + 2 {
			Load(all[:end])
		}
	}
	if wholeGrammar(g) != wantG || wholeProgram(p) != wantP || wholeProgram(wrong) != wantWrong || string(all) != wantAll {
		t.Error("what is handed in has changed:", wholeGrammar(g), wholeProgram(p), wholeProgram(wrong), all)
	}
}

// P11.4: nothing of what is handed in is kept: answers stay as they are, and what is asked anew is answered anew.
func TestNothingIsKept(t *testing.T) {
	g, p := roomyGrammar(), roomyProgram()
	q, err := Make(g)
	h, err2 := Grammar(p)
	b, err3 := Bytes(p)
	given := slices.Clone(b)
	r, err4 := Load(given)
	if err != nil || err2 != nil || err3 != nil || err4 != nil {
		t.Fatal(err, err2, err3, err4)
	}
	wantQ, wantH, wantB, wantR := told(q), drawn(h), string(b), told(r)
	g.Rules[0].Body.Subs[0].Subs[0].Text = "other"
	g.Rules[0].Body.Subs[2] = bare(api.Any)
	g.Rules[1].Body = bare(api.Empty)
	for i := range p.Ops {
		clear(p.Ops[i].Subs[:cap(p.Ops[i].Subs)])
	}
	clear(p.Ops)
	clear(p.Names)
	clear(p.Roots)
	for i := range given {
		given[i] ^= 0xff
	}
	if told(q) != wantQ || drawn(h) != wantH || string(b) != wantB || told(r) != wantR {
		t.Error("an answer changes with what was handed in:", told(q), drawn(h), b, told(r))
	}
	isProgram(t, g, unchecked(g))
	isNone(t, p)
	isNoProgram(t, given)
	isProgram(t, roomyGrammar(), roomyProgram())
}

// span is a piece of memory.
type span struct{ from, to uintptr }

// stretch is the memory of a list, its spare room too.
func stretch[T any](list []T) span {
	from := uintptr(unsafe.Pointer(unsafe.SliceData(list)))
	return span{from, from + uintptr(cap(list))*unsafe.Sizeof(*new(T))}
}

// letters is the memory of a text.
func letters(s string) span {
	from := uintptr(unsafe.Pointer(unsafe.StringData(s)))
	return span{from, from + uintptr(len(s))}
}

// meet tells whether two of these pieces have a byte in common.
func meet(spans []span) bool {
	slices.SortFunc(spans, func(a, b span) int { return int(int64(a.from) - int64(b.from)) })
	for i := range spans[1:] {
		if spans[i].to > spans[i+1].from {
			return true
		}
	}
	return false
}

// programSpans and grammarSpans are the pieces of memory of an answer, or of what is handed in.
func programSpans(p api.Program) []span {
	out := []span{stretch(p.Ops), stretch(p.Names), stretch(p.Roots)}
	for _, name := range p.Names {
		out = append(out, letters(name))
	}
	for _, o := range p.Ops {
		out = append(out, letters(o.Text), stretch(o.Subs))
	}
	return slices.DeleteFunc(out, func(s span) bool { return s.from == s.to })
}

func grammarSpans(g api.Grammar) []span {
	out := []span{stretch(g.Rules)}
	for _, rule := range g.Rules {
		out = append(append(out, letters(rule.Name)), nodeSpans(rule.Body)...)
	}
	return slices.DeleteFunc(out, func(s span) bool { return s.from == s.to })
}

func nodeSpans(n api.Node) []span {
	out := []span{letters(n.Text), stretch(n.Subs)}
	for _, sub := range n.Subs {
		out = append(out, nodeSpans(sub)...)
	}
	return out
}

// P11.4, with W6: answers share no memory, neither with each other, nor within one, nor with what is handed in.
func TestAnswersAreNewMemory(t *testing.T) {
	// No text has one byte: the language keeps such ones once for all.
	source := "start <- (next 'some')* (next 'some') next <- ('some' 'more')? 'more' [x-z] last <- [x-z]"
	g := parsed(t, source)
	p := made(t, source)
	b, err := Bytes(p)
	if err != nil {
		t.Fatal(err)
	}
	spans := append(programSpans(p), stretch(b))
	for _, rule := range g.Rules {
		// The texts of a parsed tree are pieces of one token each.
		spans = append(spans, nodeSpans(rule.Body)...)
	}
	spans = append(spans, stretch(g.Rules))
	spans = slices.DeleteFunc(spans, func(s span) bool { return s.from == s.to })
	for range 3 {
		q, err := Make(g)
		h, err2 := Grammar(p)
		c, err3 := Bytes(p)
		r, err4 := Load(b)
		if err != nil || err2 != nil || err3 != nil || err4 != nil {
			t.Fatal(err, err2, err3, err4)
		}
		spans = slices.Concat(spans, programSpans(q), grammarSpans(h), []span{stretch(c)}, programSpans(r))
	}
	if meet(spans) {
		t.Error("answers share memory")
	}
}

// P11.4: what is done to an answer is not seen in another one.
func TestAnswersMayBeChanged(t *testing.T) {
	g := parsed(t, sums)
	want := unchecked(g)
	for range 3 {
		isProgram(t, g, want)
		p, _ := Make(g)
		h, _ := Grammar(want)
		b, _ := Bytes(want)
		q, _ := Load(encoded(want))
		for _, r := range []api.Program{p, q} {
			for _, o := range r.Ops {
				clear(o.Subs[:cap(o.Subs)])
			}
			clear(r.Ops[:cap(r.Ops)])
			clear(r.Names[:cap(r.Names)])
			clear(r.Roots[:cap(r.Roots)])
		}
		clear(b[:cap(b)])
		clear(h.Rules[0].Body.Subs)
		clear(h.Rules[:cap(h.Rules)])
	}
}
