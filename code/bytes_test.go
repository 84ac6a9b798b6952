package code

import (
	"slices"
	"strings"
	"testing"

	"muntin/api"
	"muntin/class"
)

// num, blob and encoded tell a program in bytes as the chapter says it, told another way.
func num(n int) []byte {
	var digits []byte
	for ; n > 0; n /= 256 {
		digits = append([]byte{byte(n % 256)}, digits...)
	}
	return append([]byte{byte(len(digits))}, digits...)
}

func blob(s string) []byte { return append(num(len(s)), s...) }

func encoded(p api.Program) []byte {
	out := num(len(p.Names))
	for i, name := range p.Names {
		out = append(append(out, blob(name)...), num(p.Roots[i])...)
	}
	out = append(out, num(len(p.Ops))...)
	for _, o := range p.Ops {
		out = append(append(out, num(o.Kind)...), blob(o.Text)...)
		if o.Kind == api.Set {
			var bits [32]byte
			for c := range 256 {
				if class.Has(o.Class, byte(c)) {
					bits[c/8] += 1 << (c % 8)
				}
			}
			out = append(out, blob(string(bits[:]))...)
		}
		out = append(out, num(len(o.Subs))...)
		for _, sub := range o.Subs {
			out = append(out, num(sub)...)
		}
	}
	return out
}

// isWritable tells whether a program, which may be none, can be told in bytes at all, with nothing left out.
func isWritable(p api.Program) bool {
	if len(p.Names) != len(p.Roots) || slices.ContainsFunc(p.Roots, isNegative) {
		return false
	}
	return !slices.ContainsFunc(p.Ops, func(o api.Op) bool {
		return o.Kind < 0 || o.Kind != api.Set && o.Class != api.Class{} || slices.ContainsFunc(o.Subs, isNegative)
	})
}

func isNegative(n int) bool { return n < 0 }

// P11.3: the bytes of all kinds, one by one.
func TestBytes(t *testing.T) {
	head := "\x01\x01\x01\x01a"
	for source, want := range map[string]string{
		"a <- ()":                           head + "\x00\x01\x01" + "\x01\x01\x00\x00",
		"a <- 'xy'":                         head + "\x00\x01\x01" + "\x01\x02\x01\x02xy\x00",
		"a <- ''":                           head + "\x00\x01\x01" + "\x01\x02\x00\x00",
		"a <- .":                            head + "\x00\x01\x01" + "\x01\x04\x00\x00",
		"a <- []":                           head + "\x00\x01\x01" + "\x01\x03\x00\x01\x20" + strings.Repeat("\x00", 32) + "\x00",
		"a <- [^]":                          head + "\x00\x01\x01" + "\x01\x03\x00\x01\x20" + strings.Repeat("\xff", 32) + "\x00",
		`a <- [\x00\xff]`:                   head + "\x00\x01\x01" + "\x01\x03\x00\x01\x20\x01" + strings.Repeat("\x00", 30) + "\x80\x00",
		`a <- [\x07\t\n]`:                   head + "\x00\x01\x01" + "\x01\x03\x00\x01\x20\x80\x06" + strings.Repeat("\x00", 30) + "\x00",
		"a <- [0A]":                         head + "\x00\x01\x01" + "\x01\x03\x00\x01\x20" + strings.Repeat("\x00", 6) + "\x01\x00\x02" + strings.Repeat("\x00", 23) + "\x00",
		"a <- .?":                           head + "\x01\x01\x01\x02" + "\x01\x04\x00\x00" + "\x01\x08\x00\x01\x01\x00",
		"a <- .*":                           head + "\x01\x01\x01\x02" + "\x01\x04\x00\x00" + "\x01\x09\x00\x01\x01\x00",
		"a <- .+":                           head + "\x01\x01\x01\x02" + "\x01\x04\x00\x00" + "\x01\x0a\x00\x01\x01\x00",
		"a <- &.":                           head + "\x01\x01\x01\x02" + "\x01\x04\x00\x00" + "\x01\x0b\x00\x01\x01\x00",
		"a <- !.":                           head + "\x01\x01\x01\x02" + "\x01\x04\x00\x00" + "\x01\x0c\x00\x01\x01\x00",
		"a <- . () .":                       head + "\x01\x02\x01\x03" + "\x01\x04\x00\x00" + "\x01\x01\x00\x00" + "\x01\x06\x00\x01\x03\x00\x01\x01\x00",
		"a <- . / ()":                       head + "\x01\x02\x01\x03" + "\x01\x04\x00\x00" + "\x01\x01\x00\x00" + "\x01\x07\x00\x01\x02\x00\x01\x01",
		"a <- bc bc <- .":                   "\x01\x02" + "\x01\x01a\x00" + "\x01\x02bc\x01\x01" + "\x01\x02" + "\x01\x05\x00\x01\x01\x01\x01" + "\x01\x04\x00\x00",
		"bc <- . a <- bc":                   "\x01\x02" + "\x01\x02bc\x00" + "\x01\x01a\x01\x01" + "\x01\x02" + "\x01\x04\x00\x00" + "\x01\x05\x00\x01\x01\x00",
		"a <- " + strings.Repeat(". ", 300): head + "\x01\x01\x01\x02" + "\x01\x04\x00\x00" + "\x01\x06\x00\x02\x01\x2c" + strings.Repeat("\x00", 300),
	} {
		b, err := Bytes(made(t, source))
		if err != nil || string(b) != want {
			t.Errorf("%.40s: %v %v, not %v", source, b, err, []byte(want))
		}
		p, err := Load([]byte(want))
		if err != nil || told(p) != told(made(t, source)) {
			t.Errorf("%.40s: %s %v", source, told(p), err)
		}
	}
}

// P11.3: each byte of a class has its bit.
func TestBitsOfClasses(t *testing.T) {
	var bytes, c = make([]byte, 32), api.Class{}
	for i := range 256 {
		clear(bytes)
		bytes[i/8] = 1 << (i % 8)
		c = api.Class{}
		c[i/64] = 1 << (i % 64)
		want := "\x01\x01\x01\x01a\x00\x01\x01\x01\x03\x00\x01\x20" + string(bytes) + "\x00"
		b, err := Bytes(one(api.Op{Kind: api.Set, Class: c}))
		if err != nil || string(b) != want {
			t.Error(i, b, err)
		}
		p, err := Load([]byte(want))
		if err != nil || len(p.Ops) != 1 || p.Ops[0].Class != c {
			t.Error(i, p, err)
		}
	}
}

// decoded is what stands in bytes, as far as that can be told, whichever way numbers are written.
func decoded(b []byte) (p api.Program, ok bool) {
	// Where the bytes end too early, a place behind them is asked for.
	defer func() { ok = recover() == nil }()
	take := func() int {
		n, width := 0, int(b[0])
		for _, digit := range b[1 : 1+width] {
			n = n*256 + int(digit)
		}
		b = b[1+width:]
		return n
	}
	text := func() string {
		n := take()
		out := string(b[:n])
		b = b[n:]
		return out
	}
	for range take() {
		p.Names = append(p.Names, text())
		p.Roots = append(p.Roots, take())
	}
	for range take() {
		o := api.Op{Kind: take(), Text: text()}
		if o.Kind == api.Set {
			for i, x := range []byte(text()) {
				for bit := range 8 {
					o.Class[i/8] |= uint64(x>>bit&1) << (i%8*8 + bit)
				}
			}
		}
		for range take() {
			o.Subs = append(o.Subs, take())
		}
		p.Ops = append(p.Ops, o)
	}
	return p, true
}

// loadsAsJudged holds Load to the judge: just what a program is in bytes is taken. It tells whether that was one.
func loadsAsJudged(t *testing.T, b []byte) bool {
	t.Helper()
	p, ok := decoded(b)
	if !ok || !isWritable(p) || string(encoded(p)) != string(b) || !isJudgedProgram(p) {
		isNoProgram(t, b)
		return false
	}
	got, err := Load(b)
	again, err2 := Bytes(got)
	if err != nil || err2 != nil || told(got) != told(p) || string(again) != string(b) {
		t.Errorf("%v: %s %v %v %v, not %s", b, told(got), err, again, err2, told(p))
	}
	return true
}

// someBytes are programs in bytes.
func someBytes(t *testing.T) [][]byte {
	t.Helper()
	var out [][]byte
	for _, source := range []string{"a <- ()", "a <- 'xyz' [xy]", "a <- 'x' b / 'x' b <- 'x'*", "start <- (. second)? !'x' second <- &[0-9] . / 'it' thi_rd <- (. .)+", sums} {
		b, err := Bytes(made(t, source))
		if err != nil || !loadsAsJudged(t, b) {
			t.Fatal(source, b, err)
		}
		out = append(out, b)
	}
	return out
}

// P11.3, P11.5: bytes that end too early, and that go on.
func TestBytesThatAreCutOff(t *testing.T) {
	for _, b := range someBytes(t) {
		for end := range b {
			isNoProgram(t, b[:end])
		}
		for _, more := range []string{"\x00", "\x01", "\xff", "\x00\x00", "\x01\x04\x00\x00", string(b)} {
			isNoProgram(t, append(slices.Clone(b), more...))
		}
	}
	isNoProgram(t, nil)
	isNoProgram(t, []byte{})
}

// P11.3, P11.5: each byte in turn is another one, is left out, stands twice, has one ahead of it.
func TestBytesThatAreChanged(t *testing.T) {
	taken := 0
	for _, b := range someBytes(t)[:4] {
		for at := range b {
			for value := range 256 {
				changed := slices.Clone(b)
				changed[at] = byte(value)
				if loadsAsJudged(t, changed) && value != int(b[at]) {
					taken++
				}
			}
			loadsAsJudged(t, slices.Delete(slices.Clone(b), at, at+1))
			for _, value := range []byte{b[at], 0, 1, 2, 8, 9, 255} {
				loadsAsJudged(t, slices.Insert(slices.Clone(b), at, value))
			}
		}
	}
	// Letters of names and literals, and classes, may be others.
	if taken < 10000 {
		t.Error(taken, "changed programs were taken")
	}
}

// P11.3: what may not stand in bytes.
func TestWrongBytes(t *testing.T) {
	head, root := "\x01\x01\x01\x01a", "\x00"
	for what, b := range map[string]string{
		"no bytes of rules":       "\x00\x00",
		"operations alone":        "\x00\x01\x01\x01\x04\x00\x00",
		"a count in two bytes":    "\x02\x00\x01\x01\x01a\x00\x01\x01\x01\x04\x00\x00",
		"a nought in one byte":    head + "\x01\x00" + "\x01\x01\x01\x04\x00\x00",
		"a root in two bytes":     head + "\x02\x00\x00" + "\x01\x01\x01\x04\x00\x00",
		"a kind in two bytes":     head + root + "\x01\x01\x02\x00\x04\x00\x00",
		"parts counted in two":    head + root + "\x01\x01\x01\x04\x00\x01\x00",
		"a text counted in two":   head + root + "\x01\x01\x01\x04\x01\x00\x00",
		"a wide number":           "\x09" + strings.Repeat("\x01", 9),
		"a number above MaxInt":   "\x08" + strings.Repeat("\xff", 8),
		"MaxInt rules":            "\x08\x7f" + strings.Repeat("\xff", 7),
		"MaxInt operations":       head + root + "\x08\x7f" + strings.Repeat("\xff", 7) + "\x01\x04\x00\x00",
		"MaxInt parts":            head + root + "\x01\x01\x01\x04\x00" + "\x08\x7f" + strings.Repeat("\xff", 7),
		"many parts":              head + root + "\x01\x01\x01\x04\x00" + "\x03\x0f\x00\x00" + strings.Repeat("\x00", 0xf0000),
		"MaxInt root":             head + "\x08\x7f" + strings.Repeat("\xff", 7) + "\x01\x01\x01\x04\x00\x00",
		"MaxInt kind":             head + root + "\x01\x01" + "\x08\x7f" + strings.Repeat("\xff", 7) + "\x00\x00",
		"a kind of 0":             head + root + "\x01\x01\x00\x00\x00",
		"a kind of 13":            head + root + "\x01\x01\x01\x0d\x00\x00",
		"no class":                head + root + "\x01\x01\x01\x03\x00\x00",
		"a class without count":   head + root + "\x01\x01\x01\x03\x00" + strings.Repeat("\x00", 32) + "\x00",
		"a class of 31 bytes":     head + root + "\x01\x01\x01\x03\x00\x01\x1f" + strings.Repeat("\x00", 31) + "\x00",
		"a class of 33 bytes":     head + root + "\x01\x01\x01\x03\x00\x01\x21" + strings.Repeat("\x00", 33) + "\x00",
		"a class of 64 bytes":     head + root + "\x01\x01\x01\x03\x00\x01\x40" + strings.Repeat("\x00", 64) + "\x00",
		"a class of an Any":       head + root + "\x01\x01\x01\x04\x00\x01\x20" + strings.Repeat("\x00", 32) + "\x00",
		"a text of an Any":        head + root + "\x01\x01\x01\x04\x01\x01.\x00",
		"a name in a Ref":         "\x01\x02\x01\x01a\x00\x01\x01b\x01\x01\x01\x02" + "\x01\x05\x01\x01b\x01\x01\x01\x01" + "\x01\x04\x00\x00",
		"a name of another sort":  "\x01\x01\x01\x011" + root + "\x01\x01\x01\x04\x00\x00",
		"no name":                 "\x01\x01\x00" + root + "\x01\x01\x01\x04\x00\x00",
		"a name that is too long": "\x01\x01\x01\x21" + strings.Repeat("n", 33) + root + "\x01\x01\x01\x04\x00\x00",
		"a blob that is too long": "\x01\x01\x03\x01\x00\x01" + strings.Repeat("n", api.MaxBlob+1) + root + "\x01\x01\x01\x04\x00\x00",
		"the longest blob":        "\x01\x01\x03\x01\x00\x00" + strings.Repeat("n", api.MaxBlob) + root + "\x01\x01\x01\x04\x00\x00",
		"no root there":           head + "\x01\x01" + "\x01\x01\x01\x04\x00\x00",
		"operations first":        "\x01\x01\x01\x04\x00\x00" + "\x01\x01\x01\x01a\x00",
		"a rule twice":            "\x01\x02\x01\x01a\x00\x01\x01a\x00" + "\x01\x01\x01\x04\x00\x00",
	} {
		isNoProgram(t, []byte(b))
		if t.Failed() {
			t.Fatal(what)
		}
	}
	if _, err := Load([]byte(head + root + "\x01\x01\x01\x04\x00\x00")); err != nil {
		t.Error(err)
	}
}

func FuzzLoad(f *testing.F) {
	for _, s := range []string{sums, "a <- 'x' b / 'x' b <- 'x'*", "a <- [0-9] .+", "a <- ()"} {
		f.Add(encoded(made(f, s)))
	}
	f.Add([]byte{})
	f.Fuzz(func(t *testing.T, b []byte) {
		if len(b) < 600 {
			loadsAsJudged(t, b)
		}
	})
}
