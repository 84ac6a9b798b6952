package compat

import (
	"fmt"
	"strings"
	"sync"
	"testing"

	"muntin/api"
)

// roomy is a program whose lists have spare room, with something in it.
func roomy() api.Program {
	subs := append(make([]int, 0, 5), 1, 2)
	_ = append(subs, 7, -1)
	ops := append(make([]api.Op, 0, 6), api.Op{Kind: api.Lit, Text: "x"}, api.Op{Kind: api.Plus, Subs: []int{0}}, api.Op{Kind: api.Ref, Subs: []int{1}}, api.Op{Kind: api.Seq, Subs: subs}, api.Op{Kind: api.Lit, Text: "y"})
	_ = append(ops, api.Op{Kind: 99, Text: "z"})
	names := append(make([]string, 0, 4), "a", "b")
	_ = append(names, "c")
	roots := append(make([]int, 0, 4), 3, 4)
	_ = append(roots, 9, 8)
	return api.Program{Ops: ops, Names: names, Roots: roots}
}

// whole tells all of a program, the spare room of its lists too.
func whole(p api.Program) string {
	out := fmt.Sprintf("%q %d %d %d %d", p.Names[:cap(p.Names)], p.Roots[:cap(p.Roots)], len(p.Ops), len(p.Names), len(p.Roots))
	for _, op := range p.Ops[:cap(p.Ops)] {
		out += fmt.Sprintf(" %d %q %d %d %d", op.Kind, op.Text, op.Class, op.Subs[:cap(op.Subs)], len(op.Subs))
	}
	return out
}

// P15.3: what is handed in, its spare room too, is as it was, whatever is answered.
func TestNothingIsChanged(t *testing.T) {
	wrong := roomy()
	wrong.Roots[0] = 4
	all := []api.Program{roomy(), wrong, made(t, "a <- 'x'* b / 'z' b <- 'y'"), {}}
	var was []string
	for _, p := range all {
		was = append(was, whole(p))
	}
	for i, p := range all {
		for k, q := range all {
			Gate(p, q)
			Same(p, q)
			Pairs(p, q)
			if whole(p) != was[i] || whole(q) != was[k] {
				t.Fatal(whole(p), whole(q), "not", was[i], was[k])
			}
		}
	}
}

// P15.3: nothing is kept: a program that was changed is held against others as it is now, and one that was not as ever.
func TestNothingIsKept(t *testing.T) {
	p, q := roomy(), roomy()
	follows(t, p, q, true, true)
	// Of each the same; and the Ref and the y are each other's.
	counts(t, p, q, 7, 7)
	q.Ops[1].Kind = api.Star
	follows(t, p, q, true, false)
	counts(t, p, q, 7, 5)
	follows(t, q, p, false, false)
	q.Ops[0] = api.Op{Kind: api.Set, Class: api.Class{0, 3 << ('x' - 64)}}
	follows(t, p, q, false, false)
	counts(t, p, q, 7, 4)
	q.Ops[1].Kind = api.Ref
	isRefused(t, p, q)
	follows(t, p, roomy(), true, true)
	counts(t, p, roomy(), 7, 7)
}

// P15.1, P15.2, with W5: lists that are empty are as good as none.
func TestEmptyLists(t *testing.T) {
	p := api.Program{Ops: []api.Op{{Kind: api.Lit, Text: "x", Subs: []int{}}, {Kind: api.Opt, Subs: []int{0}}}, Names: []string{"a"}, Roots: []int{1}}
	q := made(t, "a <- 'x'?")
	follows(t, p, q, true, true)
	follows(t, q, p, true, true)
	counts(t, q, p, 3, 2)
	isRefused(t, api.Program{Ops: []api.Op{}, Names: []string{}, Roots: []int{}}, q)
	isRefused(t, q, api.Program{Ops: []api.Op{}, Names: []string{}, Roots: []int{}})
}

// P15.1, P15.2, with W2: calls at one time, of the same programs, know nothing of each other.
func TestCallsAtOneTime(t *testing.T) {
	p, q := made(t, "a <- b* 'w' (a / 'y') / . b <- 'x' / 'y' &a"), made(t, "a <- b* 'w' (a / 'y') / . / c b <- 'x' / 'y' &a c <- 'z'")
	n, m, err := Pairs(p, q)
	if n <= m || m == 0 || err != nil {
		t.Fatal(n, m, err)
	}
	older, newer := made(t, "a <- "+strings.Repeat("'x' ", 9)), made(t, "a <- "+strings.Repeat("[xy] ", 9))
	var group sync.WaitGroup
	for range 8 {
		group.Go(func() {
			for range 20 {
				counts(t, p, q, n, m)
				follows(t, older, newer, true, false)
				follows(t, newer, older, false, false)
				isRefused(t, api.Program{}, p)
			}
		})
	}
	group.Wait()
}
