package class

import (
	"regexp"
	"slices"
	"strconv"
	"strings"
	"testing"

	"muntin/api"
)

// of is the class with these bytes, by the definition of api.Class.
func of(bytes ...int) api.Class {
	var c api.Class
	for _, b := range bytes {
		c[b/64] |= 1 << (b % 64)
	}
	return c
}

// from is the class with the bytes from lo to hi.
func from(lo, hi int) api.Class {
	var c api.Class
	for b := lo; b <= hi; b++ {
		c = join(c, of(b))
	}
	return c
}

// join is what is in one of some classes, word by word.
func join(classes ...api.Class) api.Class {
	var out api.Class
	for _, c := range classes {
		for i, word := range c {
			out[i] |= word
		}
	}
	return out
}

// holds tells whether a byte is in a class, by the definition of api.Class.
func holds(c api.Class, b int) bool {
	return c[b/64]>>(b%64)%2 == 1
}

// samples are the ends, the edges of words, and classes without any order: the same ones each time.
func samples() []api.Class {
	out := []api.Class{{}, from(0, 255), from(97, 122), of(0), of(255), of(63), of(64), of(127, 128), from(63, 64), from(191, 192), from(32, 126), from(1, 254)}
	for b := 0; b < 256; b++ {
		out = append(out, of(b))
	}
	state := uint64(1)
	draw := func() uint64 {
		state = state*6364136223846793005 + 1442695040888963407
		return state ^ state>>29
	}
	for range 200 {
		c := api.Class{draw(), draw(), draw(), draw()}
		d := api.Class{draw(), draw(), draw(), draw()}
		thin, thick := api.Class{}, api.Class{}
		for i := range c {
			thin[i], thick[i] = c[i]&d[i], c[i]|d[i]
		}
		out = append(out, c, thin, thick)
	}
	return out
}

// P2.1
func TestRangeIsTheBytesBetween(t *testing.T) {
	for lo := 0; lo < 256; lo++ {
		want := api.Class{}
		for hi := lo; hi < 256; hi++ {
			want = join(want, of(hi))
			if c, err := Range(lo, hi); c != want || err != nil {
				t.Fatal(lo, hi, c, err)
			}
		}
	}
}

// P2.1
func TestRangeRefusesWhatIsNoRange(t *testing.T) {
	for _, x := range [][2]int{{-1, -1}, {-1, 0}, {-1, 255}, {0, 256}, {255, 256}, {256, 256}, {1, 0}, {255, 254}, {0, -1}, {-3, -2}, {256, 300}, {300, 200}, {64, 63}, {api.MinInt, 0}, {0, api.MaxInt}, {0, api.MinInt}, {api.MaxInt, 255}, {api.MinInt, api.MaxInt}, {1 << 32, 1<<32 + 1}, {97 - 256, 122}} {
		if c, err := Range(x[0], x[1]); c != (api.Class{}) || api.Code(err) != api.ErrArg {
			t.Error(x, c, err)
		}
	}
}

// P2.1
func TestHasLooksAtTheBit(t *testing.T) {
	for _, c := range samples() {
		for b := 0; b < 256; b++ {
			if Has(c, byte(b)) != holds(c, b) {
				t.Fatal(c, b)
			}
		}
	}
}

// P2.1
func TestBothEitherAndNotByteByByte(t *testing.T) {
	all := samples()
	for i, c := range all {
		d := all[(i*7+3)%len(all)]
		both, either, not := Both(c, d), Either(c, d), Not(c)
		for b := 0; b < 256; b++ {
			in, too := holds(c, b), holds(d, b)
			if holds(both, b) != (in && too) || holds(either, b) != (in || too) || holds(not, b) == in {
				t.Fatal(c, d, b)
			}
		}
	}
}

// P2.1
func TestCountCounts(t *testing.T) {
	for _, c := range samples() {
		n := 0
		for b := 0; b < 256; b++ {
			if holds(c, b) {
				n++
			}
		}
		if Count(c) != n {
			t.Error(c, n, Count(c))
		}
	}
	if Count(api.Class{}) != 0 || Count(from(0, 255)) != 256 {
		t.Error("none and all")
	}
}

// P2.2
func TestRunsOfKnownClasses(t *testing.T) {
	for _, x := range []struct {
		c    api.Class
		want [][2]int
	}{
		{api.Class{}, nil},
		{of(97, 98, 99, 101), [][2]int{{97, 99}, {101, 101}}},
		{from(0, 255), [][2]int{{0, 255}}},
		{of(0), [][2]int{{0, 0}}},
		{of(255), [][2]int{{255, 255}}},
		{of(0, 255), [][2]int{{0, 0}, {255, 255}}},
		{from(60, 70), [][2]int{{60, 70}}},
		{from(0, 63), [][2]int{{0, 63}}},
		{from(64, 127), [][2]int{{64, 127}}},
		{from(1, 254), [][2]int{{1, 254}}},
		{join(from(0, 62), from(64, 190), from(193, 255)), [][2]int{{0, 62}, {64, 190}, {193, 255}}},
	} {
		if got := Runs(x.c); !slices.Equal(got, x.want) {
			t.Error(x.want, got)
		}
	}
}

// P2.2
func TestRunsAreTheLongestRisingAndAll(t *testing.T) {
	for _, c := range samples() {
		back, last := api.Class{}, -2
		for _, run := range Runs(c) {
			if run[0] <= last+1 || run[1] < run[0] {
				t.Fatal(c, run, last)
			}
			back, last = join(back, from(run[0], run[1])), run[1]
		}
		if back != c {
			t.Fatal(c, back)
		}
	}
}

// P2.2, with W6: what is answered is nobody else's.
func TestRunsAreNewEachTime(t *testing.T) {
	c := of(1, 2, 9)
	first := Runs(c)
	first[0] = [2]int{7, 7}
	_ = append(first[:1], [2]int{8, 8})
	if got := Runs(c); !slices.Equal(got, [][2]int{{1, 2}, {9, 9}}) {
		t.Error(got)
	}
}

// signText is a byte's sign, from the words of the chapter.
func signText(b int) string {
	one := string([]byte{byte(b)})
	if i := strings.Index("\n\r\t", one); i >= 0 {
		return `\` + "nrt"[i:i+1]
	}
	if strings.Contains(`[]\-^`, one) {
		return `\` + one
	}
	if b >= 32 && b <= 126 {
		return one
	}
	return hexText(b)
}

// hexText is a byte's escape by its number.
func hexText(b int) string {
	return `\x` + strconv.FormatInt(int64(b+256), 16)[1:]
}

// P2.3
func TestTextOfKnownClasses(t *testing.T) {
	for want, c := range map[string]api.Class{
		`[a-z]`:                     from(97, 122),
		`[\n\-AB]`:                  of(10, 45, 65, 66),
		`[]`:                        {},
		`[\x00-\xff]`:               from(0, 255),
		`[a]`:                       of('a'),
		`[ab]`:                      of('a', 'b'),
		`[a-c]`:                     of('a', 'b', 'c'),
		`[ace]`:                     of('a', 'c', 'e'),
		`[\t\n\r]`:                  of(9, 10, 13),
		`[\t-\r]`:                   from(9, 13),
		`[\n\x0b]`:                  of(10, 11),
		`[\[-\^]`:                   from('[', '^'),
		`[\[\\]`:                    of('[', '\\'),
		`[\]\^]`:                    of(']', '^'),
		`[ ~]`:                      of(' ', '~'),
		`[\x1f ~\x7f]`:              of(31, 32, 126, 127),
		`[\x1f-~]`:                  from(31, 126),
		`[\x00\x0f\x10\xf0\xff]`:    of(0, 15, 16, 0xf0, 255),
		`[,-.]`:                     from(',', '.'),
		`[,\-]`:                     of(',', '-'),
		`[+-\-]`:                    from('+', '-'),
		`[!-/:-@\[-` + "`" + `{-~]`: join(from(33, 47), from(58, 64), from(91, 96), from(123, 126)),
	} {
		if got := Text(c); got != want {
			t.Error(want, got)
		}
	}
}

// P2.3
func TestTextGoesRunByRun(t *testing.T) {
	for _, c := range samples() {
		want := "["
		for lo := 0; lo < 256; lo++ {
			if !holds(c, lo) {
				continue
			}
			hi := lo
			for hi < 255 && holds(c, hi+1) {
				hi++
			}
			switch hi - lo {
			case 0:
				want += signText(lo)
			case 1:
				want += signText(lo) + signText(hi)
			default:
				want += signText(lo) + "-" + signText(hi)
			}
			lo = hi
		}
		if got := Text(c); got != want+"]" {
			t.Fatal(want+"]", got)
		}
	}
}

// P2.4
func TestParseOfGoodTexts(t *testing.T) {
	for s, want := range map[string]api.Class{
		`[]`:                 {},
		`[^]`:                from(0, 255),
		`[a]`:                of('a'),
		`[^a]`:               join(from(0, 96), from(98, 255)),
		`[^\x00-~]`:          from(127, 255),
		`[a-cb-d]`:           from('a', 'd'),
		`[aaa]`:              of('a'),
		`[ba]`:               of('a', 'b'),
		`[a-a]`:              of('a'),
		`[\x61]`:             of('a'),
		`[\x61-c]`:           of('a', 'b', 'c'),
		`[\n\r\t]`:           of(10, 13, 9),
		`[\t-\n]`:            of(9, 10),
		`[\[\]\\\-\^]`:       of('[', ']', '\\', '-', '^'),
		`[+-\-]`:             of('+', ',', '-'),
		`[\--/]`:             of('-', '.', '/'),
		`[\^]`:               of('^'),
		`[^\^]`:              join(from(0, '^'-1), from('^'+1, 255)),
		`[\\n]`:              of('\\', 'n'),
		`[ ~]`:               of(' ', '~'),
		`[x00]`:              of('x', '0'),
		`[\x00\x0a\xa0\xff]`: of(0, 10, 160, 255),
		`[\x009]`:            of(0, '9'),
		`[^\x00-\xff]`:       {},
		`['"/().*+?&!<]`:     of('\'', '"', '/', '(', ')', '.', '*', '+', '?', '&', '!', '<'),
	} {
		for _, tail := range []string{"", "x", "]", "[a]", "\x00", "-z]"} {
			if c, n, err := Parse(s + tail); c != want || n != len(s) || err != nil {
				t.Error(s, tail, c, n, err)
			}
		}
	}
}

// P2.4
func TestParseTellsWhereATextIsWrong(t *testing.T) {
	form := func(at int) api.Fault { return api.Fault{Code: api.ErrForm, At: at} }
	end := func(at int) api.Fault { return api.Fault{Code: api.ErrEnd, At: at} }
	for s, want := range map[string]api.Fault{
		"":            end(0),
		"[":           end(1),
		"[^":          end(2),
		"[a":          end(2),
		"[a-":         end(3),
		"[a-b":        end(4),
		`[\`:          end(2),
		`[\x`:         end(3),
		`[\x4`:        end(4),
		`[a-\`:        end(4),
		`[b-\x6`:      end(6),
		`[b-\x0`:      end(6),
		"a":           form(0),
		"]":           form(0),
		"^[a]":        form(0),
		" [a]":        form(0),
		"\x00":        form(0),
		"[b-a]":       form(1),
		"[b-a":        form(1),
		`[b-a\q]`:     form(1),
		"[xb-a]":      form(2),
		"[^b-a]":      form(2),
		`[\x62-a]`:    form(1),
		`[c-\x62]`:    form(1),
		`[\xff-\x00]`: form(1),
		`[\]-\[]`:     form(1),
		"[a-]":        form(3),
		"[a-]]":       form(3),
		"[-]":         form(1),
		"[-a]":        form(1),
		"[^-a]":       form(2),
		"[a-b-c]":     form(4),
		"[a--]":       form(3),
		"[a-^]":       form(3),
		"[a-[]":       form(3),
		"[a^]":        form(2),
		"[^^]":        form(2),
		"[[]":         form(1),
		"[a[":         form(2),
		`[\q]`:        form(2),
		`[\N]`:        form(2),
		`[\X41]`:      form(2),
		`[\ ]`:        form(2),
		`[\'`:         form(2),
		`[\0]`:        form(2),
		`[\x0G]`:      form(4),
		`[\x0g]`:      form(4),
		`[\xG0]`:      form(3),
		`[\xA0]`:      form(3),
		`[\x0A]`:      form(4),
		`[\x]`:        form(3),
		`[\x4]`:       form(4),
		`[\x/0]`:      form(3),
		`[\x:0]`:      form(3),
		"[\\x`0]":     form(3),
		"[a-\\q]":     form(4),
		"[a-\\x4 ]":   form(6),
		"[\x1f]":      form(1),
		"[\x7f]":      form(1),
		"[\n]":        form(1),
		"[\t]":        form(1),
		"[a-\x80]":    form(3),
		"[\xff]":      form(1),
		"[é]":         form(1),
		"[a\x00":      form(2),
	} {
		c, n, err := Parse(s)
		if c != (api.Class{}) || n != 0 || api.Code(err) != want.Code || api.At(err) != want.At {
			t.Errorf("%q: %v %v %v, not %v", s, c, n, err, &want)
		}
	}
}

// The shapes of a class's text, apart from which of two signs is the greater one.
var (
	signShape  = `(?:[ -,.-Z_-~]|\\[nrt\[\]\\^-]|\\x[0-9a-f]{2})`
	signForm   = regexp.MustCompile(signShape)
	memberForm = regexp.MustCompile(signShape + `(?:-` + signShape + `)?`)
	classForm  = regexp.MustCompile(`^\[\^?(?:` + signShape + `(?:-` + signShape + `)?)*\]`)
)

// canStand tells whether a text could be the beginning of one that begins with a class, apart from the order of two signs.
func canStand(s string) bool {
	for _, tail := range []string{"", "]", "n]", "0]", "00]", "[]"} {
		if classForm.MatchString(s + tail) {
			return true
		}
	}
	return false
}

// valued is the byte for which a sign stands.
func valued(sign string) int {
	for b := 0; b < 256; b++ {
		if signText(b) == sign || hexText(b) == sign {
			return b
		}
	}
	return -1
}

// judged is what Parse must answer, found by looking at longer and longer beginnings.
func judged(s string) (api.Class, int, *api.Fault) {
	stands := 0
	for stands < len(s) && canStand(s[:stands+1]) {
		stands++
	}
	whole := classForm.FindString(s)
	inner := s[:stands]
	if whole != "" {
		inner = whole
	}
	out, at := api.Class{}, min(1, len(inner))
	if strings.HasPrefix(inner, "[^") {
		at = 2
	}
	for at < len(inner) {
		place := memberForm.FindStringIndex(inner[at:])
		if place == nil || place[0] != 0 {
			break
		}
		signs := signForm.FindAllString(inner[at:at+place[1]], -1)
		lo, hi := valued(signs[0]), valued(signs[len(signs)-1])
		if lo > hi {
			return api.Class{}, 0, &api.Fault{Code: api.ErrForm, At: at}
		}
		out = join(out, from(lo, hi))
		at += place[1]
	}
	switch {
	case whole != "":
		if strings.HasPrefix(whole, "[^") {
			for i := range out {
				out[i] = ^out[i]
			}
		}
		return out, len(whole), nil
	case stands == len(s):
		return api.Class{}, 0, &api.Fault{Code: api.ErrEnd, At: len(s)}
	}
	return api.Class{}, 0, &api.Fault{Code: api.ErrForm, At: stands}
}

// P2.4: texts of all kinds, held against what the chapter's words say of them.
func TestParseAgainstTheShapes(t *testing.T) {
	pieces := []string{"[", "]", "^", "-", `\`, "a", "b", "x", "n", "6", `\x62`, "\x1f", "G", "~", `\]`}
	state := uint32(7)
	for range 4000 {
		s := ""
		if state>>28 != 0 {
			s = "["
		}
		for n := state >> 24 % 8; n > 0; n-- {
			state = state*1664525 + 1013904223
			s += pieces[int(state>>16)%len(pieces)]
		}
		state = state*1664525 + 1013904223
		checkAgainstShapes(t, s)
		checkAgainstShapes(t, s+"]")
	}
}

func checkAgainstShapes(t *testing.T, s string) {
	t.Helper()
	want, used, bad := judged(s)
	c, n, err := Parse(s)
	if c != want || n != used {
		t.Errorf("%q: %v %d, not %v %d", s, c, n, want, used)
	}
	if bad == nil && err != nil || bad != nil && (api.Code(err) != bad.Code || api.At(err) != bad.At) {
		t.Errorf("%q: %v, not %v", s, err, bad)
	}
}

// P2.5
func TestParseOfTextIsTheClass(t *testing.T) {
	for _, c := range samples() {
		s := Text(c)
		for _, tail := range []string{"", "]", "a", "["} {
			if d, n, err := Parse(s + tail); d != c || n != len(s) || err != nil {
				t.Fatal(s, tail, d, n, err)
			}
		}
		if d, n, err := Parse("[^" + s[1:]); d != Not(c) || n != len(s)+1 || err != nil {
			t.Fatal(s, d, n, err)
		}
	}
}

// P2.5
func TestNotOfBothIsEitherOfNots(t *testing.T) {
	all := samples()
	for i, c := range all {
		d := all[(i*11+5)%len(all)]
		if Not(Both(c, d)) != Either(Not(c), Not(d)) {
			t.Fatal(c, d)
		}
		if Count(c)+Count(Not(c)) != 256 || Not(Not(c)) != c {
			t.Fatal(c)
		}
	}
}

// P2.4, P2.5, with W1: whatever the bytes, Parse answers what the shapes say, and what it read is what Text writes.
func FuzzParse(f *testing.F) {
	for _, s := range []string{"", "[", "[a-z]", `[^\x00-~]x`, "[b-a]", `[\q]`, `[\x0G]`, "[a^]"} {
		f.Add(s)
	}
	f.Fuzz(func(t *testing.T, s string) {
		checkAgainstShapes(t, s)
		if c, _, err := Parse(s); err == nil {
			checkAgainstShapes(t, Text(c))
		}
	})
}
