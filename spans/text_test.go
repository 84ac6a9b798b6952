package spans

import (
	"strings"
	"testing"

	"muntin/api"
)

// P13.3: names, depths and literals.
func TestText(t *testing.T) {
	p := made(t, "a <- . bc_9 <- . "+strings.Repeat("D", api.MaxName)+" <- .")
	long := strings.Repeat("D", api.MaxName)
	for _, x := range []struct {
		l          []api.Span
		text, want string
	}{
		{row(0, 0, 0, 0), "", "a ''\n"},
		{row(0, 0, 0, 0), "xyz", "a ''\n"},
		{row(0, 0, 2, 0), "xyz", "a 'xy'\n"},
		{row(0, 0, 3, 0, 1, 1, 2, 1), "xyz", "a 'xyz'\n\tbc_9 'y'\n"},
		{row(0, 0, 3, 0, 2, 3, 3, 1, 0, 3, 3, 2), "xyz", "a 'xyz'\n\t" + long + " ''\n\t\ta ''\n"},
		{row(0, 0, 3, 0, 1, 0, 1, 1, 2, 0, 1, 2, 1, 1, 3, 1), "xyz", "a 'xyz'\n\tbc_9 'x'\n\t\t" + long + " 'x'\n\tbc_9 'yz'\n"},
		{row(0, 0, 7, 0, 1, 6, 7, 1), "\n\r\t'\\\"\x00", `a '\n\r\t\'\\"\x00'` + "\n\tbc_9 '\\x00'\n"},
		{row(0, 0, 3, 0, 1, 0, 1, 1), "\u20ac", "a '\\xe2\\x82\\xac'\n\tbc_9 '\\xe2'\n"},
		{row(0, 0, 1, 0), " ", "a ' '\n"},
		{row(0, 0, 2, 0), "~\x7f", "a '~\\x7f'\n"},
	} {
		says(t, p, x.l, x.text, x.want)
	}
}

// P13.3: spans need not be those of that text, nor a text short; literals may be longer than lex.Tokens lets them be.
func TestTextOfAnySpans(t *testing.T) {
	p := made(t, "a <- 'x' b <- 'y'")
	says(t, p, row(0, 0, 2, 0, 1, 0, 1, 1), "zz", "a 'zz'\n\tb 'z'\n")
	long := strings.Repeat("z", 2*api.MaxText)
	says(t, p, row(0, 0, len(long), 0), long, "a '"+long+"'\n")
	says(t, p, row(0, 0, 1, 0), strings.Repeat(long, 100), "a 'z'\n")
}

// P13.3: lists that are not right, rules that are none, ends beyond the text; ahead of what is too long.
func TestTextOfWrongSpans(t *testing.T) {
	p := made(t, "a <- . b <- 'y'")
	long := strings.Repeat("x", 20*api.MaxText)
	for _, l := range [][]api.Span{
		nil, row(1, 0, 0, 0), row(0, 1, 1, 0), row(0, 0, 0, 1), row(0, 0, -1, 0),
		row(0, 0, 3, 0, 1, 0, 4, 1), row(0, 0, 3, 0, 1, 2, 1, 1), row(0, 0, 3, 0, 1, 0, 2, 1, 1, 1, 3, 1), row(0, 0, 3, 0, 1, 0, 3, 2), row(0, 0, 3, 0, -1, 0, 3, 1),
		row(0, 0, 3, 0, 2, 0, 3, 1), row(0, 0, 3, 0, 64, 0, 3, 1), row(0, 0, 3, 0, api.MaxInt, 0, 3, 1), row(0, 0, 3, 0, 1, 0, 1, 1, 2, 1, 1, 1),
		row(0, 0, len(long)+1, 0), row(0, 0, api.MaxInt, 0), row(0, 0, api.MaxInt, 0, 1, api.MaxInt, api.MaxInt, 1),
		row(0, 0, len(long), 0, 2, 0, 0, 1), row(0, 0, len(long), 0, 1, 0, 0, 2),
	} {
		isUnsaid(t, p, l, long, api.ErrArg)
	}
	for _, text := range []string{"", "x", "xy"} {
		isUnsaid(t, p, row(0, 0, len(text)+1, 0), text, api.ErrArg)
		says(t, p, row(0, 0, len(text), 0), text, "a '"+text+"'\n")
	}
	// Each To counts; those behind the first one are within it.
	isUnsaid(t, p, row(0, 0, 3, 0, 1, 0, 1, 1), "xy", api.ErrArg)
}

// P13.3: one line of as many bytes as may be, and of one more.
func TestLongestLine(t *testing.T) {
	const most = 16 * api.MaxText
	p := made(t, "a <- . bc <- .")
	text := strings.Repeat("x", most+9)
	says(t, p, row(0, 0, most-5, 0), text, "a '"+text[:most-5]+"'\n")
	for more := 1; more < 9; more++ {
		isUnsaid(t, p, row(0, 0, most-5+more, 0), text, api.ErrLong)
	}
	// A byte whose sign has four, and one whose sign has two.
	for _, sign := range []struct {
		b    string
		long int
	}{{"\x00", 4}, {"\xff", 4}, {"'", 2}, {"\\", 2}, {"\n", 2}} {
		many := (most - 5) / sign.long
		rest := most - 5 - many*sign.long
		text := strings.Repeat(sign.b, many) + strings.Repeat("x", rest+1)
		if s, err := Text(p, row(0, 0, many+rest, 0), text); len(s) != most || err != nil {
			t.Errorf("%q: %d %v", sign.b, len(s), err)
		}
		isUnsaid(t, p, row(0, 0, many+rest+1, 0), text, api.ErrLong)
		isUnsaid(t, p, row(0, 0, many+1, 0), strings.Repeat(sign.b, many+1), api.ErrLong)
	}
	isUnsaid(t, p, row(0, 0, 1<<24, 0), strings.Repeat("\x00", 1<<24), api.ErrLong)
}

// P13.3: many lines of as many bytes as may be, and of one more.
func TestLongestLines(t *testing.T) {
	const most = 16 * api.MaxText
	p := made(t, "a <- . bc <- .")
	text := strings.Repeat("x", 100)
	// A line of 5 bytes, some of 7 (a depth, two letters, a blank, quotes, an end), and as many x as are left.
	l := row(0, 0, 0, 0)
	for len(l) <= (most-5)/7 {
		l = append(l, api.Span{Rule: 1, Deep: 1})
	}
	rest := (most - 5) % 7
	l[0].To, l[len(l)-1].To = rest, 0
	if s, err := Text(p, l, text); len(s) != most || err != nil {
		t.Error(len(s), err)
	}
	l[len(l)-1].To = 1
	isUnsaid(t, p, l, text, api.ErrLong)
	l[len(l)-1].To, l[0].To = 0, rest+1
	isUnsaid(t, p, l, text, api.ErrLong)
	l[0].To, l[len(l)-1].Deep = rest, 2
	isUnsaid(t, p, l, text, api.ErrLong)
	isUnsaid(t, p, append(l[:len(l)-1], row(1, 0, 0, 1, 0, 0, 0, 1)...), text, api.ErrLong)
}

// P13.3, with W1: what is far too deep, or too many, is told soon.
func TestFarTooLong(t *testing.T) {
	p := made(t, "a <- .")
	deep := row(0, 0, 0, 0)
	for len(deep) < 300000 {
		deep = append(deep, api.Span{Deep: len(deep)})
	}
	// Lines of 5 bytes and their depths: 5, 6, 7 and so on.
	count, sum := 0, 0
	for sum+5+count <= 16*api.MaxText {
		sum += 5 + count
		count++
	}
	if s, err := Text(p, deep[:count], ""); len(s) != sum || err != nil || !strings.HasSuffix(s, "\n"+strings.Repeat("\t", count-1)+"a ''\n") {
		t.Error(len(s), err, "not", sum)
	}
	isUnsaid(t, p, deep[:count+1], "", api.ErrLong)
	isUnsaid(t, p, deep, "", api.ErrLong)
}
