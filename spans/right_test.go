package spans

import (
	"slices"
	"testing"

	"muntin/api"
)

// parentOf is the place of the last span ahead of one that is 1 less deep, or -1.
func parentOf(l []api.Span, place int) int {
	for i := place - 1; i >= 0; i-- {
		if l[i].Deep == l[place].Deep-1 {
			return i
		}
	}
	return -1
}

// isRight tells the promise word by word.
func isRight(l []api.Span) bool {
	if len(l) == 0 || l[0].Rule != 0 || l[0].From != 0 || l[0].Deep != 0 {
		return false
	}
	for i, s := range l {
		if s.Rule < 0 || s.From > s.To {
			return false
		}
		if i > 0 && !isRightWithin(l, i) {
			return false
		}
	}
	return true
}

// isRightWithin tells whether a span that is not the first one stands right behind those ahead of it.
func isRightWithin(l []api.Span, place int) bool {
	s := l[place]
	if s.Deep < 1 || s.Deep-1 > l[place-1].Deep {
		return false
	}
	parent := parentOf(l, place)
	if parent < 0 || s.From < l[parent].From || s.To > l[parent].To {
		return false
	}
	for i := 1; i < place; i++ {
		if parentOf(l, i) == parent && l[i].To > s.From {
			return false
		}
	}
	return true
}

// P13.2: each condition, at its edges.
func TestRight(t *testing.T) {
	for _, x := range []struct {
		l    []api.Span
		want bool
	}{
		{nil, false},
		{[]api.Span{}, false},
		{row(0, 0, 0, 0), true},
		{row(0, 0, 4, 0), true},
		{row(0, 0, api.MaxInt, 0), true},
		// The first one.
		{row(1, 0, 4, 0), false},
		{row(-1, 0, 4, 0), false},
		{row(0, 1, 4, 0), false},
		{row(0, -1, 4, 0), false},
		{row(0, 1, 1, 0), false},
		{row(0, 0, 4, 1), false},
		{row(0, 0, 4, -1), false},
		{row(0, 0, -1, 0), false},
		{row(0, 0, api.MinInt, 0), false},
		// Rules.
		{row(0, 0, 4, 0, 0, 0, 4, 1), true},
		{row(0, 0, 4, 0, 64, 0, 4, 1), true},
		{row(0, 0, 4, 0, api.MaxInt, 0, 4, 1), true},
		{row(0, 0, 4, 0, -1, 0, 4, 1), false},
		{row(0, 0, 4, 0, api.MinInt, 0, 4, 1), false},
		// Ends behind beginnings.
		{row(0, 0, 4, 0, 1, 3, 3, 1), true},
		{row(0, 0, 4, 0, 1, 4, 4, 1), true},
		{row(0, 0, 4, 0, 1, 3, 2, 1), false},
		{row(0, 0, 4, 0, 1, api.MaxInt, 0, 1), false},
		{row(0, 0, 4, 0, 1, 0, api.MinInt, 1), false},
		// Depths.
		{row(0, 0, 4, 0, 1, 0, 4, 0), false},
		{row(0, 0, 4, 0, 1, 0, 4, -1), false},
		{row(0, 0, 4, 0, 1, 0, 4, api.MinInt), false},
		{row(0, 0, 4, 0, 1, 0, 4, 2), false},
		{row(0, 0, 4, 0, 1, 0, 4, api.MaxInt), false},
		{row(0, 0, 4, 0, 1, 0, 4, 1, 1, 0, 4, 2, 1, 0, 4, 3), true},
		{row(0, 0, 4, 0, 1, 0, 4, 1, 1, 0, 4, 2, 1, 0, 4, 4), false},
		{row(0, 0, 4, 0, 1, 0, 2, 1, 1, 0, 2, 2, 1, 2, 4, 1), true},
		{row(0, 0, 4, 0, 1, 0, 2, 1, 1, 0, 2, 2, 1, 2, 4, 1, 1, 2, 4, 2), true},
		{row(0, 0, 4, 0, 1, 0, 2, 1, 1, 0, 2, 2, 1, 2, 4, 1, 1, 2, 4, 3), false},
		{row(0, 0, 4, 0, 1, 0, 2, 1, 1, 0, 2, 2, 1, 2, 4, 0), false},
		// Within the parent.
		{row(0, 0, 4, 0, 1, 0, 5, 1), false},
		{row(0, 0, 4, 0, 1, -1, 4, 1), false},
		{row(0, 0, 4, 0, 1, api.MinInt, 4, 1), false},
		{row(0, 0, 4, 0, 1, 0, api.MaxInt, 1), false},
		{row(0, 0, 4, 0, 1, 5, 5, 1), false},
		{row(0, 0, 4, 0, 1, 1, 3, 1, 2, 1, 3, 2), true},
		{row(0, 0, 4, 0, 1, 1, 3, 1, 2, 0, 3, 2), false},
		{row(0, 0, 4, 0, 1, 1, 3, 1, 2, 1, 4, 2), false},
		{row(0, 0, 4, 0, 1, 1, 3, 1, 2, 0, 0, 2), false},
		{row(0, 0, 4, 0, 1, 1, 3, 1, 2, 4, 4, 2), false},
		{row(0, 0, 4, 0, 1, 0, 2, 1, 1, 2, 4, 1, 1, 2, 3, 2), true},
		{row(0, 0, 4, 0, 1, 0, 2, 1, 1, 2, 4, 1, 1, 0, 1, 2), false},
		// Behind those with the same parent.
		{row(0, 0, 4, 0, 1, 0, 2, 1, 1, 2, 4, 1), true},
		{row(0, 0, 4, 0, 1, 0, 2, 1, 1, 3, 4, 1), true},
		{row(0, 0, 4, 0, 1, 0, 2, 1, 1, 1, 4, 1), false},
		{row(0, 0, 4, 0, 1, 0, 2, 1, 1, 1, 1, 1), false},
		{row(0, 0, 4, 0, 1, 0, 2, 1, 1, 2, 2, 1, 1, 2, 2, 1), true},
		{row(0, 0, 4, 0, 1, 1, 1, 1, 1, 0, 0, 1), false},
		{row(0, 0, 4, 0, 1, 0, 3, 1, 1, 0, 3, 2, 1, 2, 4, 1), false},
		{row(0, 0, 4, 0, 1, 0, 3, 1, 1, 0, 1, 2, 1, 2, 4, 1), false},
		{row(0, 0, 4, 0, 1, 0, 3, 1, 1, 0, 1, 2, 1, 1, 2, 2, 1, 3, 4, 1), true},
		{row(0, 0, 4, 0, 1, 0, 3, 1, 1, 0, 2, 2, 1, 1, 2, 2, 1, 3, 4, 1), false},
		// What is deeper elsewhere hinders nobody.
		{row(0, 0, 4, 0, 1, 0, 2, 1, 1, 0, 2, 2, 1, 2, 4, 1, 1, 2, 3, 2, 1, 3, 4, 2), true},
	} {
		if Right(x.l) != x.want {
			t.Error(x.l, !x.want)
		}
		if isRight(x.l) != x.want {
			t.Error(x.l, "word by word:", !x.want)
		}
	}
}

// P13.2: all lists of up to seven spans in a text of two bytes, up to three deep; and all short ones with wrong spans too.
func TestAllShortLists(t *testing.T) {
	var good, each []api.Span
	for from := -1; from < 4; from++ {
		for to := -1; to < 4; to++ {
			for deep := -1; deep < 4; deep++ {
				s := api.Span{Rule: from + 1, From: from, To: to, Deep: deep}
				each = append(each, s)
				if 0 <= from && from <= to && to < 3 && deep > 0 {
					good = append(good, s)
				}
			}
		}
	}
	var counts [2]int
	var check func(l, next []api.Span, more int)
	check = func(l, next []api.Span, more int) {
		want := isRight(l)
		if Right(l) != want {
			t.Fatal(l, !want)
		}
		if want {
			counts[1]++
		} else {
			counts[0]++
		}
		// What stands behind a list that is wrong cannot mend it.
		for _, s := range next {
			if more > 0 && (want || len(l) < 2) {
				check(append(slices.Clone(l), s), next, more-1)
			}
		}
	}
	check(row(0, 0, 2, 0), good, 6)
	check(row(0, 0, 2, 0), each, 2)
	check(nil, each, 2)
	if counts[0] < 10000 || counts[1] < 10000 {
		t.Error("few lists of a kind:", counts)
	}
}

// P13.2: there is no limit to how many, or how deep they are.
func TestRightOfManySpans(t *testing.T) {
	wide, deep := row(0, 0, 9, 0), row(0, 0, 9, 0)
	for i := 1; i < 200000; i++ {
		wide = append(wide, api.Span{Rule: 1, From: min(i, 9), To: min(i, 9), Deep: 1})
		deep = append(deep, api.Span{Rule: 1, To: 9, Deep: i})
	}
	if !Right(wide) || !Right(deep) {
		t.Error("not right:", Right(wide), Right(deep))
	}
	if Right(append(wide, wide[1])) || Right(append(deep, deep[len(deep)-1])) {
		t.Error("right")
	}
	// One that comes back up to the first level stands behind all.
	deep[len(deep)-1] = api.Span{Rule: 1, From: 9, To: 9, Deep: 1}
	if !Right(deep) {
		t.Error("not right")
	}
}
