package lean

import (
	"fmt"
	"slices"
	"strconv"
	"strings"
	"testing"
	"unsafe"

	"muntin/api"
)

// roomy is a grammar whose lists have spare room, with something in it.
func roomy() api.Grammar {
	room := func(nodes ...api.Node) []api.Node {
		out := append(make([]api.Node, 0, len(nodes)+3), nodes...)
		_ = append(out, bare(99), ref("c"))
		return out
	}
	row := api.Node{Kind: api.Seq, At: 7, Subs: room(lit(strings.Repeat("xy", 2)), bare(api.Empty), lit("zw"), ref("be"))}
	many := api.Node{Kind: api.Opt, At: 8, Subs: room(api.Node{Kind: api.Plus, At: 9, Subs: room(ref("be"))})}
	body := api.Node{Kind: api.Alt, At: 4, Subs: room(row, api.Node{Kind: api.Alt, Subs: room(lit("m"), lit("n"))}, over(api.Seq, room(ref("be"), many)...))}
	rules := append(make([]api.Rule, 0, 5), api.Rule{Name: "ab", At: 2, Body: body}, api.Rule{Name: "be", At: 1, Body: lit("yz")}, api.Rule{Name: "gone", At: 3, Body: ref("ab")})
	_ = append(rules, api.Rule{Name: "c", Body: ref("a")})
	return api.Grammar{Rules: rules}
}

// roomyLean is its lean one's text.
const roomyLean = "ab <- 'xyxyzw' be / [mn] / be be*\nbe <- 'yz'\n"

// whole tells all that is in a grammar's lists, their spare room too.
func whole(g api.Grammar) string {
	out := strconv.Itoa(len(g.Rules))
	for _, rule := range g.Rules[:cap(g.Rules)] {
		out += rule.Name + strconv.Itoa(rule.At) + wholeNode(rule.Body)
	}
	return out
}

func wholeNode(n api.Node) string {
	out := fmt.Sprint("(", n.Kind, n.Text, n.Class, n.At, len(n.Subs))
	for _, sub := range n.Subs[:cap(n.Subs)] {
		out += wholeNode(sub)
	}
	return out + ")"
}

// P14.3: what is handed in, its spare room too, is as it was, whatever is answered.
func TestNothingIsChanged(t *testing.T) {
	wrong := roomy()
	wrong.Rules[1].Body = ref("be")
	for _, g := range []api.Grammar{roomy(), wrong} {
		want := whole(g)
		for range 2 {
			Grammar(g)
			Size(g)
		}
		if whole(g) != want {
			t.Error("what is handed in has changed:", whole(g))
		}
	}
}

// P14.3: nothing of what is handed in is kept: an answer stays as it is, and what is asked anew is answered anew.
func TestNothingIsKept(t *testing.T) {
	g := roomy()
	out := leaned(t, g)
	spoil(g)
	if got := printed(t, out); got != roomyLean {
		t.Error("an answer changes with what was handed in:", got)
	}
	if got, err := Grammar(g); err == nil {
		t.Error(got)
	}
	if got := printed(t, leaned(t, roomy())); got != roomyLean || Size(roomy()) != 16 {
		t.Error(got, Size(roomy()))
	}
}

// spoil overwrites all of a grammar.
func spoil(g api.Grammar) {
	for _, rule := range g.Rules {
		spoilNode(rule.Body)
	}
	clear(g.Rules[:cap(g.Rules)])
}

func spoilNode(n api.Node) {
	for _, sub := range n.Subs {
		spoilNode(sub)
	}
	for i := range n.Subs[:cap(n.Subs)] {
		n.Subs[:cap(n.Subs)][i] = lit("spoilt")
	}
}

// P14.3: what is done to an answer is seen neither in another one, nor in what was handed in.
func TestAnswersMayBeChanged(t *testing.T) {
	g := roomy()
	want := whole(g)
	for range 3 {
		out := leaned(t, g)
		if got := printed(t, out); got != roomyLean || whole(g) != want {
			t.Error(got, whole(g))
		}
		spoil(out)
	}
}

// span is a piece of memory.
type span struct{ from, to uintptr }

// stretch is the memory of a list, its spare room too.
func stretch[T any](list []T) span {
	from := uintptr(unsafe.Pointer(unsafe.SliceData(list)))
	return span{from, from + uintptr(cap(list))*unsafe.Sizeof(*new(T))}
}

// letters is the memory of a text.
func letters(s string) span {
	from := uintptr(unsafe.Pointer(unsafe.StringData(s)))
	return span{from, from + uintptr(len(s))}
}

// pieces are the pieces of memory of a grammar.
func pieces(g api.Grammar) []span {
	out := []span{stretch(g.Rules)}
	for _, rule := range g.Rules {
		out = append(append(out, letters(rule.Name)), nodePieces(rule.Body)...)
	}
	return out
}

func nodePieces(n api.Node) []span {
	out := []span{letters(n.Text), stretch(n.Subs)}
	for _, sub := range n.Subs {
		out = append(out, nodePieces(sub)...)
	}
	return out
}

// meet tells whether two of these pieces have a byte in common.
func meet(spans []span) bool {
	spans = slices.DeleteFunc(spans, func(s span) bool { return s.from == s.to })
	slices.SortFunc(spans, func(a, b span) int { return int(int64(a.from) - int64(b.from)) })
	for i := range spans[1:] {
		if spans[i].to > spans[i+1].from {
			return true
		}
	}
	return false
}

// P14.3, with W6: answers share no memory, neither with each other, nor within one, nor with what is handed in.
func TestAnswersAreNewMemory(t *testing.T) {
	// No text has one byte: the language keeps such ones once for all.
	g := parsed(t, "start <- (next 'some')* ((next+)? 'so' 'me') !(!next) / (next / 'other') / 'more'? next <- ('some' / 'more') [x-z] / [uv] / [uw] / last last <- 'last' next 'last' last")
	out := leaned(t, g)
	all := slices.Concat(pieces(out), pieces(leaned(t, out)), pieces(leaned(t, g)))
	for _, rule := range g.Rules {
		// The names of a parsed tree may be pieces of one text.
		all = append(all, nodePieces(rule.Body)...)
	}
	if meet(append(all, stretch(g.Rules))) {
		t.Error("answers share memory")
	}
	for i, rule := range out.Rules {
		if meet([]span{letters(rule.Name), letters(g.Rules[i].Name)}) {
			t.Error("a name's memory is shared:", rule.Name)
		}
	}
}

// P14.3, W5: a list that is empty is as good as none.
func TestEmptyLists(t *testing.T) {
	g := ruled(api.Rule{Name: "a", Body: over(api.Alt, api.Node{Kind: api.Set, Class: api.Class{2}, Subs: []api.Node{}}, api.Node{Kind: api.Lit, Text: "xy", Subs: make([]api.Node, 0, 3)})})
	if got := printed(t, leaned(t, g)); got != "a <- '\\x01' / 'xy'\n" || Size(g) != 3 {
		t.Error(got, Size(g))
	}
	for _, none := range []api.Grammar{{}, {Rules: []api.Rule{}}} {
		if got, err := Grammar(none); got.Rules != nil || api.Code(err) != api.ErrTree || Size(none) != 0 {
			t.Error(got, err)
		}
	}
}
