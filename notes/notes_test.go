package notes

import (
	"strings"
	"testing"

	"muntin/api"
	"muntin/code"
	"muntin/syntax"
)

// made is the program of a source.
func made(t *testing.T, s string) api.Program {
	t.Helper()
	g, err := syntax.Parse(s)
	if err != nil {
		t.Fatal(s, err)
	}
	p, err := code.Make(g)
	if err != nil {
		t.Fatal(s, err)
	}
	return p
}

// P12.1: what came of each operation at each place, of the example of chapter 12.
func TestEveryNote(t *testing.T) {
	p := made(t, "a <- 'x' a / 'y'")
	b, err := Of(p, p.Roots[0], "xxy", 0, 12)
	if err != nil || b.Count() != 12 {
		t.Fatal(b, err)
	}
	// At the places 0 to 3: where it ends, -1, if it fails, or was not matched there.
	for op, want := range [][4]int{{1, 2, -1, -1}, {-1, 3, 3, -1}, {3, 3, -1, -1}, {-1, -1, 3, -1}, {3, 3, 3, -1}} {
		for at, end := range want {
			if b.End(op, at) != end {
				t.Error(op, at, b.End(op, at), "not", end)
			}
		}
	}
}

// P12.1, P13.1: an operation that is no rule's root is matched too, and what is not needed for it is not.
func TestAnyOperation(t *testing.T) {
	p := made(t, "a <- 'x' b / . b <- 'y'*")
	star := p.Roots[1]
	b, err := Of(p, star, "xyyx", 1, 4)
	if err != nil || b.Count() != 4 || b.End(star, 1) != 3 || b.End(star, 0) != Failed || b.End(p.Roots[0], 0) != Failed {
		t.Error(b, err)
	}
	b, err = Of(p, 0, "yx", 1, 1)
	if err != nil || b.Count() != 1 || b.End(0, 1) != 2 {
		t.Error(b, err)
	}
}

// P12.1, P12.6: too few notes: there is no book.
func TestTooFew(t *testing.T) {
	p := made(t, "a <- 'x' a / 'y'")
	for most := range 12 {
		if b, err := Of(p, p.Roots[0], "xxy", 0, most); b != nil || err != api.ErrBudget {
			t.Error(most, b, err)
		}
	}
}

// P12.3, P13.4: two books of one program know nothing of each other.
func TestTwoBooks(t *testing.T) {
	p := made(t, "a <- 'x'*")
	short, _ := Of(p, p.Roots[0], "x", 0, 100)
	long, _ := Of(p, p.Roots[0], strings.Repeat("x", 9), 0, 100)
	if short.Count() != 3 || short.End(p.Roots[0], 0) != 1 || long.Count() != 11 || long.End(p.Roots[0], 0) != 9 {
		t.Error(short, long)
	}
}
