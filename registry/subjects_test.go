package registry

import (
	"fmt"
	"strings"
	"testing"

	"muntin/api"
)

// P17.3: of a subject that is no name nothing is registered, whatever the text is.
func TestRegisterNoName(t *testing.T) {
	c := begun(t)
	for _, name := range []string{"", "1", "1a", "g h", " g", "g\n", "g-", "\xc3\xa9", "g\x00", "'g'", strings.Repeat("g", api.MaxName+1), strings.Repeat("g", api.MaxSource)} {
		for _, text := range []string{"a <- .", "", "a <- a"} {
			c.register(name, text, refuses(api.ErrSubject))
		}
	}
	if l := c.r.List(); len(l) != 0 {
		t.Error(l)
	}
	for _, name := range []string{strings.Repeat("g", api.MaxName), "_", "Z9"} {
		c.register(name, "a <- .", 1)
		c.find(name, 1, 1, "a <- .\n")
	}
}

// wrong are texts of which syntax.Parse, code.Make or printer.Print tell an error, and that.
func wrong() map[string]api.Errno {
	out := map[string]api.Errno{
		"":                                    api.ErrEnd,
		"a":                                   api.ErrEnd,
		"a <- (":                              api.ErrEnd,
		"a <- 'x":                             api.ErrEnd,
		"a <- )":                              api.ErrForm,
		"'a' <- .":                            api.ErrForm,
		"a <- 'x'**":                          api.ErrForm,
		"a <- . #\n\x00":                      api.ErrForm,
		"a <- . a <- .":                       api.ErrDouble,
		"a <- b":                              api.ErrName,
		"a <- ('x'?)*":                        api.ErrLoop,
		"a <- a":                              api.ErrLeft,
		"a <- 'x'? b b <- a":                  api.ErrLeft,
		strings.Repeat("a", 33) + " <- .":     api.ErrLong,
		"a <- '" + strings.Repeat("a", 256):   api.ErrLong,
		"a<-" + strings.Repeat("'x'/", 2000):  api.ErrLong, // printed it is longer than a source
		"a <- " + strings.Repeat("(", 25):     api.ErrLong,
		"a <- " + strings.Repeat("('x'/", 24): api.ErrEnd,
		// In 24 parentheses stands what is printed in one more.
		"a <- 'y' " + strings.Repeat("('x'/", 24) + strings.Repeat(")", 24): api.ErrTree,
	}
	rules, ops := "", "a <- "
	for i := range api.MaxRules + 1 {
		rules += fmt.Sprintf("a%d <- . ", i)
	}
	for i := range api.MaxOps {
		ops += fmt.Sprintf("'%d' ", i)
	}
	out[rules], out[ops] = api.ErrLong, api.ErrLong
	return out
}

// P17.3: of a text that is wrong the error of what reads it is told, without its place, and nothing is registered.
func TestRegisterWrongTexts(t *testing.T) {
	c := begun(t)
	for text, code := range wrong() {
		c.register("g", text, refuses(code))
	}
	if l := c.r.List(); len(l) != 0 {
		t.Error(l)
	}
	c.register("g", "a <- 'x'", 1)
	was := fmt.Sprint(c.r.List())
	for text, code := range wrong() {
		c.register("g", text, refuses(code))
	}
	if fmt.Sprint(c.r.List()) != was {
		t.Error(c.r.List(), "not", was)
	}
}

// P17.3: of several errors the first one is told: no name, a wrong text, too many, the gate.
func TestRegisterOrder(t *testing.T) {
	c := begun(t)
	for _, name := range []string{"g", "h", "i", "j"} {
		c.register(name, "a <- .", 1)
	}
	c.register("k", "a <- .", refuses(api.ErrLong))
	for text, code := range wrong() {
		c.register("k", text, refuses(code))
		c.register("", text, refuses(api.ErrSubject))
	}
	c.mode("g", 0, 0)
	for i := 2; i <= api.MaxVersions; i++ {
		c.register("g", fmt.Sprintf("a <- '%d'", i), i)
	}
	c.mode("g", 1, 1)
	for text, code := range wrong() {
		c.register("g", text, refuses(code))
	}
	c.register("g", "a <- 'x'", refuses(api.ErrLong)) // the gate would not let it follow
	c.register("g", "a <- [67]", refuses(api.ErrLong))
	c.register("g", "a<-\t'6'", api.MaxVersions) // the same text: no version more
	c.register("g", "a <- '5'", refuses(api.ErrLong))
	c.register("h", "a <- 'x'", refuses(api.ErrGate))
	c.register("h", "b <- .", 2)
}

// P17.3: what is printed the same as the newest version is that one: with other blanks, notes, signs; retired or not; not an older one's.
func TestRegisterTheSame(t *testing.T) {
	c := begun(t)
	c.register("g", "a <- [x-z] 'ab' / b* b <- '\\n'", 1)
	for _, text := range []string{"a <- [x-z] 'ab' / b*\nb <- '\\n'\n", "a<-[xyz]\"ab\"/b*b<-'\\x0a'# a note", "a <- ((([\\x78-z]) 'ab')) / (b)* b <- (\"\\n\")"} {
		c.register("g", text, 1)
	}
	c.retire("g", 1, 1)
	c.register("g", "a <- [x-z] 'ab' / b* b <- '\\n'", 1)
	c.find("g", 0, refuses(api.ErrVersion), "")
	if l := c.r.List(); len(l) != 1 || len(l[0].Versions) != 1 || !l[0].Versions[0].Retired {
		t.Error(l)
	}
	c.mode("g", 0, 0)
	c.register("g", "c <- [x-z] 'ab' / b* b <- '\\n'", 2) // the same but for a name
	c.register("g", "a <- [x-z] 'ab' / b* b <- '\\n'", 3) // as an older one
	c.register("g", "a <- [x-z] 'ab' / b* b <- '\\n'", 3)
	if l := c.r.List(); len(l[0].Versions) != 3 || l[0].Versions[0].Text != l[0].Versions[2].Text || l[0].Versions[2].Retired {
		t.Error(l)
	}
}

// P17.3: of the Mode 1, which a new subject has, a version must be let follow the newest one, though that is retired; of the Mode 0 not.
func TestGate(t *testing.T) {
	c := begun(t)
	c.register("g", "a <- 'x' !.", 1)
	c.register("g", "a <- [y-z] !.", refuses(api.ErrGate))
	c.register("g", "a <- [xy] !.", 2)
	c.register("g", "a <- 'x' !.", refuses(api.ErrGate))
	c.retire("g", 2, 2)
	c.register("g", "a <- [xz] !.", refuses(api.ErrGate)) // it may follow the version 1, which is the newest one in use
	c.find("g", 0, 1, "a <- 'x' !.\n")
	c.register("g", "a <- [x-z] !.", 3)
	c.mode("g", 0, 0)
	c.register("g", "a <- 'q'", 4)
	c.register("g", "a <- 'x' !.", 5)
	c.mode("g", 1, 1)
	c.register("g", "a <- 'q'", refuses(api.ErrGate))
	c.register("g", "a <- 'x' b b <- !.", 6)
	c.find("g", 0, 6, "a <- 'x' b\nb <- !.\n")
	// What one subject has is nothing to another one.
	c.register("h", "a <- 'q'", 1)
	c.register("h", "a <- [qr]", 2)
}

// P17.3: as many subjects as there may be, each with as many versions, and no more.
func TestLimits(t *testing.T) {
	c := begun(t)
	for i := range api.MaxSubjects {
		for v := 1; v <= api.MaxVersions; v++ {
			c.register(fmt.Sprintf("g%d", i), "a <- 'y'"+strings.Repeat(" / 'x'", v), v)
		}
	}
	was := fmt.Sprint(c.r.List())
	for i := range api.MaxSubjects {
		c.register(fmt.Sprintf("g%d", i), "a <- 'y'"+strings.Repeat(" / 'x'", api.MaxVersions+1), refuses(api.ErrLong))
		c.register(fmt.Sprintf("h%d", i), "a <- .", refuses(api.ErrLong))
	}
	// A version that is retired still counts.
	c.retire("g0", 1, 1)
	c.register("g0", "a <- 'y'"+strings.Repeat(" / 'x'", api.MaxVersions+1), refuses(api.ErrLong))
	if strings.Replace(fmt.Sprint(c.r.List()), "true", "false", 1) != was {
		t.Error(c.r.List(), "not", was)
	}
}

// P17.3: a source may be as long as a text of a command, and be printed as long.
func TestLongSources(t *testing.T) {
	c := begun(t)
	head, foot := "a <- '", "'\n"
	body := ""
	for len(head)+len(body)+250+len(foot) < api.MaxSource {
		body += strings.Repeat("x", 240) + "' / '"
	}
	body += strings.Repeat("y", api.MaxSource-len(head)-len(body)-len(foot))
	text := head + body + foot
	c.register("g", text, 1)
	c.find("g", 1, 1, text)
	if len(text) != api.MaxSource || len(c.r.Sessions()[0].Reply) < api.MaxSource {
		t.Error(len(text))
	}
	c.register("g", text[:len(text)-2]+"y'", refuses(api.ErrLong)) // with the byte 10 it is one too long
}

// P17.3: a version is retired, once or again; nothing else of it changes.
func TestRetire(t *testing.T) {
	c := begun(t)
	c.register("g", "a <- 'x'", 1)
	c.register("g", "a <- [xy]", 2)
	c.register("h", "a <- .", 1)
	c.retire("g", 1, 1)
	c.retire("g", 1, 1)
	for _, number := range []int{0, 3, api.MaxInt} {
		c.retire("g", number, refuses(api.ErrVersion))
	}
	for _, name := range []string{"", "i", "g g", strings.Repeat("g", api.MaxSource)} {
		c.retire(name, 1, refuses(api.ErrSubject))
		c.retire(name, 0, refuses(api.ErrSubject))
	}
	if s := fmt.Sprint(c.r.List()); s != "[{g 1 [{a <- 'x'\n true} {a <- [xy]\n false}]} {h 1 [{a <- .\n false}]}]" {
		t.Error(s)
	}
	c.register("g", "a <- .", 3)
	c.retire("g", 3, 3)
	c.find("g", 0, 2, "a <- [xy]\n")
	if s := fmt.Sprint(c.r.List()); s != "[{g 1 [{a <- 'x'\n true} {a <- [xy]\n false} {a <- .\n true}]} {h 1 [{a <- .\n false}]}]" {
		t.Error(s)
	}
}

// P17.3: a Mode is 0 or 1; nothing else of the subject changes.
func TestMode(t *testing.T) {
	c := begun(t)
	c.register("g", "a <- 'x'", 1)
	c.register("h", "a <- .", 1)
	c.retire("g", 1, 1)
	for _, mode := range []int{0, 0, 1, 1, 0} {
		c.mode("g", mode, mode)
		if s := fmt.Sprint(c.r.List()); s != fmt.Sprintf("[{g %d [{a <- 'x'\n true}]} {h 1 [{a <- .\n false}]}]", mode) {
			t.Error(mode, s)
		}
	}
	was := fmt.Sprint(c.r.List())
	for _, mode := range []int{2, 3, api.MaxInt} {
		c.mode("g", mode, refuses(api.ErrArg))
		c.mode("i", mode, refuses(api.ErrSubject))
	}
	c.mode("", 0, refuses(api.ErrSubject))
	c.mode("i", 1, refuses(api.ErrSubject))
	if fmt.Sprint(c.r.List()) != was {
		t.Error(c.r.List(), "not", was)
	}
}
