package lex

import (
	"bytes"
	"regexp"
	"slices"
	"strconv"
	"strings"
	"testing"
	"unsafe"

	"muntin/api"
	"muntin/class"
)

// of is the class with these bytes, by the definition of api.Class.
func of(bytes ...int) api.Class {
	var c api.Class
	for _, b := range bytes {
		c[b/64] |= 1 << (b % 64)
	}
	return c
}

func name(at int, text string) api.Token {
	return api.Token{Kind: api.TokName, Text: text, At: at}
}

func lit(at int, text string) api.Token {
	return api.Token{Kind: api.TokLit, Text: text, At: at}
}

func sign(at int, text string) api.Token {
	return api.Token{Kind: api.TokSign, Text: text, At: at}
}

func set(at int, c api.Class) api.Token {
	return api.Token{Kind: api.TokClass, Class: c, At: at}
}

func arrowAt(at int) api.Token { return api.Token{Kind: api.TokArrow, At: at} }

func endAt(at int) api.Token { return api.Token{Kind: api.TokEnd, At: at} }

// cuts holds Tokens to the tokens of a source.
func cuts(t *testing.T, s string, want ...api.Token) {
	t.Helper()
	got, err := Tokens(s)
	if err != nil || !slices.Equal(got, want) {
		t.Errorf("%q: %v %v, not %v", s, got, err, want)
	}
}

// refuses holds Tokens to a Fault, told as it is, and to nothing beside it.
func refuses(t *testing.T, s string, code api.Errno, at int) {
	t.Helper()
	want := api.Fault{Code: code, At: at}
	got, err := Tokens(s)
	if fault, ok := err.(*api.Fault); len(got) != 0 || !ok || *fault != want {
		t.Errorf("%q: %v %v, not %v", s, got, err, &want)
	}
}

// P3.1
func TestTokensOfTheChapter(t *testing.T) {
	cuts(t, `a_1<-'x\n'/[0-9]* # end`,
		name(0, "a_1"), arrowAt(3), lit(5, "x\n"), sign(10, "/"), set(11, of(48, 49, 50, 51, 52, 53, 54, 55, 56, 57)), sign(16, "*"), endAt(23))
	refuses(t, "a<b", api.ErrForm, 1)
	refuses(t, "'a", api.ErrEnd, 2)
	refuses(t, `"\q"`, api.ErrForm, 2)
	refuses(t, "[b-a]", api.ErrForm, 1)
	refuses(t, "$", api.ErrForm, 0)
}

// P3.1
func TestTokensOfSources(t *testing.T) {
	cuts(t, "", endAt(0))
	cuts(t, " \t\r\n", endAt(4))
	cuts(t, "a", name(0, "a"), endAt(1))
	cuts(t, "a b", name(0, "a"), name(2, "b"), endAt(3))
	cuts(t, "a#b\nc", name(0, "a"), name(4, "c"), endAt(5))
	cuts(t, "a'b'c", name(0, "a"), lit(1, "b"), name(4, "c"), endAt(5))
	cuts(t, "a[b]c", name(0, "a"), set(1, of('b')), name(4, "c"), endAt(5))
	cuts(t, "<-<-", arrowAt(0), arrowAt(2), endAt(4))
	cuts(t, "/&!?*+().", sign(0, "/"), sign(1, "&"), sign(2, "!"), sign(3, "?"), sign(4, "*"), sign(5, "+"), sign(6, "("), sign(7, ")"), sign(8, "."), endAt(9))
	cuts(t, "''\"\"", lit(0, ""), lit(2, ""), endAt(4))
	cuts(t, "'a''b'", lit(0, "a"), lit(3, "b"), endAt(6))
	cuts(t, "[][^]", set(0, api.Class{}), set(2, api.Class{1<<64 - 1, 1<<64 - 1, 1<<64 - 1, 1<<64 - 1}), endAt(5))
	cuts(t, "Az_09 _ Z9z", name(0, "Az_09"), name(6, "_"), name(8, "Z9z"), endAt(11))
}

// P3.1: a byte by itself is a blank, a note, a token, the beginning of one, or wrong.
func TestTokensOfEachByte(t *testing.T) {
	for b := range 256 {
		s := string([]byte{byte(b)})
		switch {
		case strings.Contains("\t\n\r #", s):
			cuts(t, s, endAt(1))
		case strings.Contains("_ABCDEFGHIJKLMNOPQRSTUVWXYZabcdefghijklmnopqrstuvwxyz", s):
			cuts(t, s, name(0, s), endAt(1))
		case strings.Contains("/&!?*+().", s):
			cuts(t, s, sign(0, s), endAt(1))
		case strings.Contains("'\"[", s):
			refuses(t, s, api.ErrEnd, 1)
			refuses(t, "a "+s, api.ErrEnd, 3)
		default:
			refuses(t, s, api.ErrForm, 0)
			refuses(t, "a "+s+" b", api.ErrForm, 2)
		}
	}
}

// P3.1
func TestBlanksAndNotes(t *testing.T) {
	cuts(t, "#", endAt(1))
	cuts(t, "#\n", endAt(2))
	cuts(t, "##\n#\na", name(5, "a"), endAt(6))
	cuts(t, "# a\rb\na", name(6, "a"), endAt(7))
	cuts(t, "a # '$[\x00\xff\"", name(0, "a"), endAt(10))
	cuts(t, "a#\nb", name(0, "a"), name(3, "b"), endAt(4))
	cuts(t, "'#'", lit(0, "#"), endAt(3))
	cuts(t, "[#]", set(0, of('#')), endAt(3))
	refuses(t, "#\n$", api.ErrForm, 2)
	for _, b := range []string{"\x0b", "\x0c", "\x00", "\x85", "\xa0", "\u00a0"} {
		refuses(t, " "+b, api.ErrForm, 1)
	}
}

// P3.1
func TestArrowsAreWhole(t *testing.T) {
	refuses(t, "<", api.ErrForm, 0)
	refuses(t, "< -", api.ErrForm, 0)
	refuses(t, "a <", api.ErrForm, 2)
	refuses(t, "<<-", api.ErrForm, 0)
	refuses(t, "<--", api.ErrForm, 2)
	refuses(t, "->", api.ErrForm, 0)
}

// P3.1
func TestNamesGoOnAndHaveALimit(t *testing.T) {
	most := "_" + strings.Repeat("9", api.MaxName-1)
	cuts(t, most, name(0, most), endAt(32))
	cuts(t, " "+most+"<-", name(1, most), arrowAt(33), endAt(35))
	refuses(t, most+"0", api.ErrLong, 0)
	refuses(t, "a "+most+"_ $", api.ErrLong, 2)
	refuses(t, strings.Repeat("z", api.MaxSource), api.ErrLong, 0)
	refuses(t, "0a", api.ErrForm, 0)
	refuses(t, "a 9", api.ErrForm, 2)
	refuses(t, "a\x80", api.ErrForm, 1)
	refuses(t, "aé", api.ErrForm, 1)
	refuses(t, "a-b", api.ErrForm, 1)
}

// P3.1: each byte within a literal, for both quotes.
func TestEachByteOfALiteral(t *testing.T) {
	for _, quote := range []string{"'", `"`} {
		for b := range 256 {
			one := string([]byte{byte(b)})
			s := quote + "a" + one + "b" + quote
			switch {
			case one == quote:
				refuses(t, s, api.ErrEnd, 5)
			case one == `\`:
				refuses(t, s, api.ErrForm, 3)
			case b >= 32 && b <= 126:
				cuts(t, s, lit(0, "a"+one+"b"), endAt(5))
			default:
				refuses(t, s, api.ErrForm, 2)
				refuses(t, quote+one, api.ErrForm, 1)
			}
		}
	}
}

// P3.1: each byte behind a `\`, for both quotes.
func TestEachEscapeOfALiteral(t *testing.T) {
	worth := map[int]string{'n': "\n", 'r': "\r", 't': "\t", '\\': `\`, '\'': "'", '"': `"`}
	for _, quote := range []string{"'", `"`} {
		for b := range 256 {
			s := quote + `a\` + string([]byte{byte(b)}) + "b" + quote
			text, known := worth[b]
			switch {
			case known:
				cuts(t, s, lit(0, "a"+text+"b"), endAt(6))
			case b == 'x':
				refuses(t, s, api.ErrForm, 5)
			default:
				refuses(t, s, api.ErrForm, 3)
			}
		}
	}
}

// P3.1: each two bytes behind a `\x`.
func TestDigitsOfALiteral(t *testing.T) {
	const digits = "0123456789abcdef"
	for high := range 256 {
		for low := range 256 {
			s := `'\x` + string([]byte{byte(high), byte(low)}) + "'"
			first, second := strings.IndexByte(digits, byte(high)), strings.IndexByte(digits, byte(low))
			switch {
			case first < 0:
				refuses(t, s, api.ErrForm, 3)
			case second < 0:
				refuses(t, s, api.ErrForm, 4)
			default:
				cuts(t, s, lit(0, string([]byte{byte(first*16 + second)})), endAt(6))
			}
		}
	}
	cuts(t, `"\x4141\x000"`, lit(0, "A41\x000"), endAt(13))
}

// P3.1
func TestLiteralsThatEndTooEarly(t *testing.T) {
	for _, s := range []string{"'", `"`, "'a", `'"`, `"'`, `'\`, `'\x`, `'\x4`, `'\x41`, `'\'`, `'a' "`, `[a]'\\`, "a # b\n'"} {
		refuses(t, s, api.ErrEnd, len(s))
	}
	refuses(t, "'a\n", api.ErrForm, 2)
	refuses(t, "a 'b\n'", api.ErrForm, 4)
}

// P3.1
func TestLiteralsHaveALimit(t *testing.T) {
	for _, one := range []string{"n", `\n`, `\x6e`, `"`, `\'`} {
		head := "a '" + strings.Repeat(one, api.MaxLit)
		text, _ := Tokens("'" + one + "'")
		cuts(t, head+"'.", name(0, "a"), lit(2, strings.Repeat(text[0].Text, api.MaxLit)), sign(len(head)+1, "."), endAt(len(head)+2))
		refuses(t, head, api.ErrEnd, len(head))
		refuses(t, head+"n", api.ErrLong, 2)
		refuses(t, head+"n'", api.ErrLong, 2)
		refuses(t, head+"nn'", api.ErrLong, 2)
		refuses(t, head+"n\n", api.ErrLong, 2)
		refuses(t, head+`\n`, api.ErrLong, 2)
		refuses(t, head+`\x0a`, api.ErrLong, 2)
		refuses(t, head+`\`, api.ErrEnd, len(head)+1)
		refuses(t, head+`\x0`, api.ErrEnd, len(head)+3)
		refuses(t, head+`\q'`, api.ErrForm, len(head)+1)
		refuses(t, head+`\x0g'`, api.ErrForm, len(head)+3)
		refuses(t, head+"\n'", api.ErrForm, len(head))
	}
}

// P3.1
func TestClassesAreThoseOfTheLayerBelow(t *testing.T) {
	for _, head := range []string{"", "a", "a <- ", "'['", "# [\n", "[x]"} {
		before, err := Tokens(head)
		if err != nil {
			t.Fatal(head, err)
		}
		before = before[:len(before)-1]
		for _, s := range []string{"[]", "[^]", "[a-z]", `[^\x00-~]`, `[\n\-AB]`, `['"#<]`, "[ ]", `[\]]`, "[" + strings.Repeat("a", 1000) + "]"} {
			c, used, err := class.Parse(s)
			if err != nil || used != len(s) {
				t.Fatal(s, err)
			}
			at := len(head)
			cuts(t, head+s, append(slices.Clone(before), set(at, c), endAt(at+used))...)
			cuts(t, head+s+"*", append(slices.Clone(before), set(at, c), sign(at+used, "*"), endAt(at+used+1))...)
		}
		for _, s := range []string{"[", "[a", "[^", `[\`, `[\x4`, "[a-", "[b-a]", "[a-]", "[-a]", `[\q]`, `[\x0G]`, `[\']`, "[[]", "[\n]", "[a\xff]", "[a^]", "[xb-a"} {
			_, _, err := class.Parse(s)
			refuses(t, head+s, api.Code(err), len(head)+api.At(err))
		}
	}
	refuses(t, "x [a", api.ErrEnd, 4)
	refuses(t, "x [b-a]", api.ErrForm, 3)
	refuses(t, "[a]]", api.ErrForm, 3)
}

// P3.1, with W9: the error of a class, too, tells itself with its place in the source.
func TestErrorsInWords(t *testing.T) {
	for s, want := range map[string]string{
		"ab [b-a]":                               "error 4 at 4",
		"ab [b":                                  "error 3 at 5",
		"ab $":                                   "error 4 at 3",
		"ab '":                                   "error 3 at 4",
		strings.Repeat(" ", api.MaxSource+1):     "error 2 at -1",
		" " + strings.Repeat("a", api.MaxName+1): "error 2 at 1",
	} {
		if _, err := Tokens(s); err == nil || err.Error() != want {
			t.Errorf("%q: %v, not %s", s, err, want)
		}
	}
}

// P3.1
func TestSourcesHaveALimit(t *testing.T) {
	for _, one := range []string{" ", "#", ".", "\n"} {
		if l, err := Tokens(strings.Repeat(one, api.MaxSource)); err != nil || l[len(l)-1] != endAt(api.MaxSource) {
			t.Errorf("%q: %v", one, err)
		}
	}
	for _, one := range []string{" ", "#", ".", "$", "'", "a", "\xff"} {
		refuses(t, strings.Repeat(one, api.MaxSource+1), api.ErrLong, -1)
		refuses(t, strings.Repeat(one, 3*api.MaxSource), api.ErrLong, -1)
	}
	refuses(t, strings.Repeat(" ", api.MaxSource-1)+"$", api.ErrForm, api.MaxSource-1)
	refuses(t, strings.Repeat(" ", api.MaxSource-1)+"'", api.ErrEnd, api.MaxSource)
}

// P3.1: of several wrong tokens the first one is told.
func TestTheFirstWrongTokenIsTold(t *testing.T) {
	long := strings.Repeat("n", api.MaxName+1)
	refuses(t, "$ '", api.ErrForm, 0)
	refuses(t, `'\q [b`, api.ErrForm, 2)
	refuses(t, "[b-a] "+long, api.ErrForm, 1)
	refuses(t, long+" [b-a]", api.ErrLong, 0)
	refuses(t, "a "+long+" $", api.ErrLong, 2)
	refuses(t, "< "+long, api.ErrForm, 0)
	refuses(t, "[a 'b\n", api.ErrForm, 5)
}

// P3.2
func TestNamesOfAllLengths(t *testing.T) {
	for s, want := range map[string]bool{
		"": false, "a": true, "_": true, "Z": true, "_a9": true, "a0": true, "A_z_9": true,
		"9": false, "9a": false, "a b": false, " a": false, "a ": false, "a\n": false, "#": false, "a#": false, "a-b": false, "<-": false, "'a'": false, "é": false, "aé": false, "a\x00": false,
		strings.Repeat("n", api.MaxName):            true,
		"n" + strings.Repeat("0", api.MaxName-1):    true,
		strings.Repeat("n", api.MaxName+1):          false,
		strings.Repeat("n", 70000):                  false,
		strings.Repeat("n", api.MaxName-1) + "-":    false,
		"0" + strings.Repeat("n", api.MaxName-1):    false,
		strings.Repeat("n", api.MaxName-1) + "\x7f": false,
	} {
		if Name(s) != want {
			t.Errorf("%q: not %v", s, want)
		}
	}
}

// P3.2: each byte at the front, and behind a letter.
func TestNamesOfEachByte(t *testing.T) {
	const letters = "_ABCDEFGHIJKLMNOPQRSTUVWXYZabcdefghijklmnopqrstuvwxyz"
	for b := range 256 {
		one := string([]byte{byte(b)})
		letter, digit := strings.Contains(letters, one), strings.Contains("0123456789", one)
		if Name(one) != letter || Name(one+"a") != letter || Name("a"+one) != (letter || digit) || Name("a"+one+"a") != (letter || digit) {
			t.Errorf("%q", one)
		}
	}
}

// quoted is a byte's sign in a literal of `'`, from the words of the chapter.
func quoted(b int) string {
	one := string([]byte{byte(b)})
	if i := strings.Index("\n\r\t", one); i >= 0 {
		return `\` + "nrt"[i:i+1]
	}
	if one == "'" || one == `\` {
		return `\` + one
	}
	if b >= 32 && b <= 126 {
		return one
	}
	return `\x` + strconv.FormatInt(int64(b+256), 16)[1:]
}

// P3.2
func TestQuote(t *testing.T) {
	for p, want := range map[string]string{
		"":              `''`,
		"a":             `'a'`,
		"'\\\xc8":       `'\'\\\xc8'`,
		"\n\r\t":        `'\n\r\t'`,
		`"`:             `'"'`,
		"\x00\x0f\x10":  `'\x00\x0f\x10'`,
		"\x1f ~\x7f":    `'\x1f ~\x7f'`,
		"\x80\xff":      `'\x80\xff'`,
		"é":             `'\xc3\xa9'`,
		`\n`:            `'\\n'`,
		"[a-z]^#<-/&!.": `'[a-z]^#<-/&!.'`,
	} {
		if got := Quote(p); got != want {
			t.Errorf("%q: %s, not %s", p, got, want)
		}
	}
	all, want := "", ""
	for b := range 256 {
		if got := Quote(string([]byte{byte(b)})); got != "'"+quoted(b)+"'" {
			t.Error(b, got)
		}
		all, want = all+string([]byte{byte(b)}), want+quoted(b)
	}
	if got := Quote(strings.Repeat(all, 300)); got != "'"+strings.Repeat(want, 300)+"'" {
		t.Error("many bytes")
	}
}

// shares tells whether two texts have a byte of memory in common.
func shares(a, b string) bool {
	if a == "" || b == "" {
		return false
	}
	from, to := uintptr(unsafe.Pointer(unsafe.StringData(a))), uintptr(unsafe.Pointer(unsafe.StringData(b)))
	return from < to+uintptr(len(b)) && to < from+uintptr(len(a))
}

// P3.3
func TestAnswersAreNewMemory(t *testing.T) {
	handed := []byte(`name <- 'literal' [a-z]* "x"`)
	s := unsafe.String(&handed[0], len(handed))
	first, err := Tokens(s)
	if err != nil {
		t.Fatal(err)
	}
	for _, token := range first {
		if shares(token.Text, s) {
			t.Errorf("%q is a piece of the source", token.Text)
		}
	}
	want := slices.Clone(first)
	clear(first[:cap(first)])
	if again, err := Tokens(s); err != nil || !slices.Equal(again, want) {
		t.Error(again, err)
	}
	p := strings.Clone("plain")
	if q := Quote(p); shares(q, p) || shares(q, Quote(p)) {
		t.Error("a literal that is not new")
	}
	_, one := Tokens("$")
	one.(*api.Fault).At = 7
	refuses(t, "$", api.ErrForm, 0)
}

// P3.4
func TestQuoteIsOneToken(t *testing.T) {
	all := make([]byte, 256)
	for b := range all {
		all[b] = byte(b)
		cuts(t, Quote(string(all[b:b+1])), lit(0, string(all[b:b+1])), endAt(len(Quote(string(all[b:b+1])))))
	}
	for _, p := range []string{"", string(all[:255]), string(all[1:]), strings.Repeat("'", api.MaxLit), strings.Repeat("\x00", api.MaxLit), strings.Repeat("a", api.MaxLit)} {
		cuts(t, Quote(p), lit(0, p), endAt(len(Quote(p))))
		cuts(t, "a"+Quote(p)+"b", name(0, "a"), lit(1, p), name(1+len(Quote(p)), "b"), endAt(2+len(Quote(p))))
	}
	refuses(t, Quote(string(all)), api.ErrLong, 0)
}

// The shapes of what a source is made of.
var (
	blankShape = regexp.MustCompile(`^(?:[\t\n\r ]|#[^\n]*)*`)
	nameShape  = regexp.MustCompile(`^[A-Za-z_][A-Za-z_0-9]*`)
	signShape  = regexp.MustCompile(`^[/&!?*+().]`)
	escapes    = `\\[nrt\\'"]|\\x[0-9a-f]{2}`
	signIn     = map[byte]string{'\'': `(?:[ -&(-\[\]-~]|` + escapes + `)`, '"': `(?:[ !#-\[\]-~]|` + escapes + `)`}
)

// judgedLiteral is the literal at the front of s, its length, or what is wrong with it, found by looking at longer and longer beginnings.
func judgedLiteral(s string) (string, int, *api.Fault) {
	quote := s[:1]
	one := regexp.MustCompile(signIn[s[0]])
	whole := regexp.MustCompile("^" + quote + signIn[s[0]] + "*" + quote)
	stands := 1
	if found := whole.FindString(s); found != "" {
		stands = len(found)
	} else {
		for stands < len(s) && slices.ContainsFunc([]string{"", "n", "0", "00"}, func(tail string) bool { return whole.MatchString(s[:stands+1] + tail + quote) }) {
			stands++
		}
	}
	signs := one.FindAllString(s[1:stands], -1)
	if stands > 1 && whole.MatchString(s) {
		signs = one.FindAllString(s[1:stands-1], -1)
	}
	switch {
	case len(signs) > 255:
		return "", 0, &api.Fault{Code: api.ErrLong, At: 0}
	case whole.MatchString(s):
		return meant(signs), stands, nil
	case stands == len(s):
		return "", 0, &api.Fault{Code: api.ErrEnd, At: stands}
	}
	return "", 0, &api.Fault{Code: api.ErrForm, At: stands}
}

// meant are the bytes for which signs stand.
func meant(signs []string) string {
	var out []byte
	for _, x := range signs {
		switch {
		case len(x) == 1:
			out = append(out, x[0])
		case x[1] == 'x':
			n, _ := strconv.ParseUint(x[2:], 16, 8)
			out = append(out, byte(n))
		default:
			out = append(out, "\n\r\t\\'\""[strings.IndexByte(`nrt\'"`, x[1])])
		}
	}
	return string(out)
}

// judged are the tokens of a source and where each ends, or what is wrong with it, from the chapter's shapes.
func judged(s string) ([]api.Token, []int, *api.Fault) {
	if len(s) > 8192 {
		return nil, nil, &api.Fault{Code: api.ErrLong, At: -1}
	}
	var out []api.Token
	var ends []int
	for at := len(blankShape.FindString(s)); at < len(s); at += len(blankShape.FindString(s[at:])) {
		token, used, bad := judgedToken(s[at:])
		if bad != nil {
			return nil, nil, &api.Fault{Code: bad.Code, At: at + bad.At}
		}
		token.At = at
		at += used
		out, ends = append(out, token), append(ends, at)
	}
	return append(out, endAt(len(s))), append(ends, len(s)), nil
}

// judgedToken is the token at the front of s, its length, or what is wrong with it, all places counted from its first byte.
func judgedToken(s string) (api.Token, int, *api.Fault) {
	if x := nameShape.FindString(s); x != "" {
		if len(x) > 32 {
			return api.Token{}, 0, &api.Fault{Code: api.ErrLong}
		}
		return name(0, x), len(x), nil
	}
	if x := signShape.FindString(s); x != "" {
		return sign(0, x), 1, nil
	}
	switch {
	case strings.HasPrefix(s, "<-"):
		return arrowAt(0), 2, nil
	case s[0] == '[':
		c, used, err := class.Parse(s)
		if err != nil {
			return api.Token{}, 0, &api.Fault{Code: api.Code(err), At: api.At(err)}
		}
		return set(0, c), used, nil
	case s[0] == '\'' || s[0] == '"':
		text, used, bad := judgedLiteral(s)
		return lit(0, text), used, bad
	}
	return api.Token{}, 0, &api.Fault{Code: api.ErrForm}
}

// checkSource holds Tokens to the shapes, and to what the chapter says of the blanks between tokens.
func checkSource(t *testing.T, s string) {
	t.Helper()
	want, ends, bad := judged(s)
	if bad != nil {
		refuses(t, s, bad.Code, bad.At)
		return
	}
	cuts(t, s, want...)
	checkBlanks(t, s, want, ends)
}

// checkBlanks looks at what stands between tokens, and cuts them anew with each of the blanks between.
func checkBlanks(t *testing.T, s string, tokens []api.Token, ends []int) {
	t.Helper()
	before := 0
	for i, token := range tokens {
		if gap := s[before:token.At]; blankShape.FindString(gap) != gap {
			t.Errorf("%q: %q between tokens", s, gap)
		}
		before = ends[i]
	}
	for _, blank := range []string{" ", "\t", "\n", "\r", "#'\n"} {
		var apart bytes.Buffer
		var want []api.Token
		for i, token := range tokens {
			piece := s[token.At:ends[i]]
			token.At = apart.Len()
			want = append(want, token)
			apart.WriteString(piece)
			if i+1 < len(tokens) {
				apart.WriteString(blank)
			}
		}
		want[len(want)-1].At = apart.Len()
		if apart.Len() <= api.MaxSource {
			cuts(t, apart.String(), want...)
		}
	}
}

// P3.1, P3.4: sources of all kinds, held against what the chapter's words say of them.
func TestTokensAgainstTheShapes(t *testing.T) {
	pieces := []string{"a", "_b9", "<-", "'", `"`, "/", "[a-z]", "[", "]", `\`, `\n`, `\x41`, "x", "4", "*", "(", ")", ".", " ", "\n", "#", "'x'", `"y"`, `'\''`, "<", "-", "\x00", "\xff", "!", "&", "?", "+", "[^]"}
	state := uint32(3)
	draw := func(n int) int {
		state = state*1664525 + 1013904223
		return int(state>>16) % n
	}
	for range 6000 {
		s := ""
		for n := draw(12); n > 0; n-- {
			s += pieces[draw(len(pieces))]
		}
		checkSource(t, s)
	}
}

// P3.1, P3.4: rows of whole tokens, without a blank between, or with one.
func TestTokensInRows(t *testing.T) {
	pieces := []string{"a", "_b9", "<-", "/", "[a-z]", "*", "(", ")", ".", " ", "\n", "# '\n", "'x'", `"y'"`, `'\''`, "!", "&", "?", "+", "[^]", `[\]]`, `'\x00\n'`, "''"}
	state := uint32(11)
	draw := func(n int) int {
		state = state*1664525 + 1013904223
		return int(state>>16) % n
	}
	for range 2000 {
		s := ""
		for n := draw(20); n > 0; n-- {
			s += pieces[draw(len(pieces))]
		}
		if _, err := Tokens(s); err != nil {
			t.Errorf("%q: %v", s, err)
		}
		checkSource(t, s)
	}
}

// P3.1, P3.2, P3.4, with W1: whatever the bytes, Tokens answers what the shapes say, a name is a token by itself, and a quote is one.
func FuzzTokens(f *testing.F) {
	for _, s := range []string{"", "a_1<-'x\\n'/[0-9]* # end", "a<b", "'a", `"\q"`, "[b-a]", "$", "'\\x4", "a # b\nc", strings.Repeat("n", 33)} {
		f.Add(s)
	}
	f.Fuzz(func(t *testing.T, s string) {
		checkSource(t, s)
		l, err := Tokens(s)
		if Name(s) != (err == nil && len(l) == 2 && l[0] == name(0, s)) {
			t.Errorf("%q: a name, or none", s)
		}
		if q := Quote(s); len(s) <= api.MaxLit {
			cuts(t, q, lit(0, s), endAt(len(q)))
		}
	})
}
