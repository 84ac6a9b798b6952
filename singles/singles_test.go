package singles

import (
	"testing"

	"muntin/api"
	"muntin/class"
)

// P14.1, P15.1: a literal of one byte takes that, a Set its class, Any all.
func TestSingles(t *testing.T) {
	for b := range 256 {
		text := string([]byte{byte(b)})
		want, err := class.Range(b, b)
		if c, is := Class(api.Lit, text, api.Class{}); c != want || !is || err != nil {
			t.Error(b, c, is, err)
		}
		if c, is := Class(api.Set, "", want); c != want || !is {
			t.Error(b, c, is)
		}
	}
	if c, is := Class(api.Set, "", api.Class{}); c != (api.Class{}) || !is {
		t.Error(c, is)
	}
	if c, is := Class(api.Any, "", api.Class{}); class.Count(c) != 256 || !is {
		t.Error(c, is)
	}
}

// P14.1, P15.1: nothing else is one, and takes no byte.
func TestNoSingles(t *testing.T) {
	for _, text := range []string{"", "xy", "\u00e4"} {
		if c, is := Class(api.Lit, text, api.Class{}); c != (api.Class{}) || is {
			t.Errorf("%q: %v %v", text, c, is)
		}
	}
	for _, kind := range []int{-1, 0, api.Empty, api.Ref, api.Seq, api.Alt, api.Opt, api.Star, api.Plus, api.And, api.Not, 13, api.MaxInt} {
		if c, is := Class(kind, "x", api.Class{1}); c != (api.Class{}) || is {
			t.Error(kind, c, is)
		}
	}
}
