package sound

import (
	"slices"
	"strconv"
	"strings"
	"testing"
	"unsafe"

	"muntin/api"
	"muntin/nullable"
	"muntin/printer"
	"muntin/scope"
	"muntin/syntax"
)

func ref(s string) api.Node                    { return api.Node{Kind: api.Ref, Text: s} }
func lit(s string) api.Node                    { return api.Node{Kind: api.Lit, Text: s} }
func bare(kind int) api.Node                   { return api.Node{Kind: kind} }
func over(kind int, subs ...api.Node) api.Node { return api.Node{Kind: kind, Subs: subs} }
func ruled(rules ...api.Rule) api.Grammar      { return api.Grammar{Rules: rules} }

// placed is a node of one part, at a place.
func placed(kind, at int, part api.Node) api.Node {
	return api.Node{Kind: kind, At: at, Subs: []api.Node{part}}
}

// within is a node in so many others of a kind, each with it as its only part.
func within(deep, kind int, n api.Node) api.Node {
	for range deep {
		n = over(kind, n)
	}
	return n
}

// parsed is the tree of a source.
func parsed(t testing.TB, s string) api.Grammar {
	t.Helper()
	g, err := syntax.Parse(s)
	if err != nil {
		t.Fatal(s, err)
	}
	return g
}

// shown is a grammar's text, as much of it as is worth telling.
func shown(g api.Grammar) string {
	text, _ := printer.Print(g)
	return text[:min(len(text), 200)]
}

// eight are rules, each of which may come to what its name says: to nothing at all, to Zero, Some, Fail.
const eight = "n <- n z <- () s <- ('x'?)+ f <- [] zs <- 'x'? zf <- !. sf <- 'x' zsf <- 'x' / !."

// isZero tells of each of the eight whether it may be Zero.
func isZero(name string) bool { return strings.Contains(name, "z") }

// listed are rows of places as they are told in a text: a blank between each two places, a semicolon between each two rows.
func listed(text string) [][]int {
	var out [][]int
	for row := range strings.SplitSeq(text, ";") {
		var list []int
		for _, word := range strings.Fields(row) {
			place, _ := strconv.Atoi(word)
			list = append(list, place)
		}
		out = append(out, list)
	}
	return out
}

// isFault holds Check to a fault, Ranks to the same, with nothing beside it.
func isFault(t *testing.T, g api.Grammar, code api.Errno, at int) {
	t.Helper()
	if err := Check(g); api.Code(err) != code || api.At(err) != at {
		t.Errorf("%s: %v, not %v at %d", shown(g), err, code, at)
	}
	if ranks, err := Ranks(g); ranks != nil || api.Code(err) != code || api.At(err) != at {
		t.Errorf("%s: %v %v, not %v at %d", shown(g), ranks, err, code, at)
	}
}

// isSound holds Check to nil, Ranks to some.
func isSound(t *testing.T, g api.Grammar, want ...int) {
	t.Helper()
	if err := Check(g); err != nil {
		t.Errorf("%s: %v", shown(g), err)
	}
	if ranks, err := Ranks(g); err != nil || !slices.Equal(ranks, want) {
		t.Errorf("%s: %v %v, not %v", shown(g), ranks, err, want)
	}
}

// hasBegins holds Begins to rows of places.
func hasBegins(t *testing.T, g api.Grammar, want [][]int) {
	t.Helper()
	if got, err := Begins(g); err != nil || !slices.EqualFunc(got, want, slices.Equal[[]int]) {
		t.Errorf("%s: %v %v, not %v", shown(g), got, err, want)
	}
}

// P8.1 to P8.3
func TestExamplesOfTheChapter(t *testing.T) {
	g := parsed(t, "a <- b? a / 'x' b <- 'y'")
	hasBegins(t, g, [][]int{{0, 1}, {}})
	isFault(t, g, api.ErrLeft, 0)
	g = parsed(t, "a <- 'y' a / b b <- c* 'x' c <- .")
	hasBegins(t, g, [][]int{{1}, {2}, {}})
	isSound(t, g, 2, 1, 0)
	g = parsed(t, "a <- ('x'?)*")
	hasBegins(t, g, [][]int{{}})
	isFault(t, g, api.ErrLoop, 6)
}

// refuses holds all calls to an error, with nothing beside it.
func refuses(t *testing.T, g api.Grammar, code api.Errno, at int) {
	t.Helper()
	if err := scope.Check(g); api.Code(err) != code || api.At(err) != at {
		t.Error(err, "is that of scope, not", code, at)
	}
	isFault(t, g, code, at)
	if begins, err := Begins(g); begins != nil || api.Code(err) != code || api.At(err) != at {
		t.Error(begins, err, "not", code, at)
	}
}

// P8.1, P8.2, P8.3: scope.Check's error is told ahead of all else, with its place.
func TestGrammarsThatAreRefused(t *testing.T) {
	dot := bare(api.Any)
	loop := over(api.Star, bare(api.Empty))
	long := over(api.Seq, slices.Repeat([]api.Node{ref("a")}, api.MaxSource)...)
	deep := within(api.MaxNest+2, api.Star, dot)
	refuses(t, api.Grammar{}, api.ErrTree, -1)
	refuses(t, api.Grammar{Rules: []api.Rule{}}, api.ErrTree, -1)
	for _, body := range []api.Node{{}, bare(-1), bare(13), bare(api.MaxInt), bare(api.Star), bare(api.Plus), bare(api.Seq), over(api.Star, dot, dot), over(api.Seq, ref("a")), ref(""), deep, over(api.Plus, over(api.Alt, loop, bare(api.Not)))} {
		refuses(t, ruled(api.Rule{Name: "a", Body: body}), api.ErrTree, -1)
		refuses(t, ruled(api.Rule{Name: "a", Body: loop}, api.Rule{Name: "a", Body: ref("x")}, api.Rule{Name: "b", Body: body}), api.ErrTree, -1)
	}
	refuses(t, ruled(api.Rule{Name: "1", Body: loop}), api.ErrTree, -1)
	refuses(t, ruled(slices.Repeat([]api.Rule{{Name: "a", Body: ref("a")}}, api.MaxRules+1)...), api.ErrTree, -1)
	refuses(t, ruled(api.Rule{Name: "a", Body: long}), api.ErrLong, -1)
	refuses(t, ruled(api.Rule{Name: "a", Body: within(1<<16-2, api.Plus, dot)}), api.ErrLong, -1)
	refuses(t, parsed(t, "a <- ()* b <- x a <- a"), api.ErrDouble, 16)
	refuses(t, parsed(t, "a <- b"), api.ErrName, 5)
	refuses(t, parsed(t, "a <- a ()* b <- a !c"), api.ErrName, 19)
	refuses(t, ruled(api.Rule{Name: "a", Body: over(api.Star, api.Node{Kind: api.Ref, Text: "x", At: api.MinInt})}), api.ErrName, api.MinInt)
}

// P8.1: a Star and a Plus of all that a part may come to, by its name and as it stands.
func TestRepetitionsOfAllParts(t *testing.T) {
	g := parsed(t, eight)
	for _, rule := range g.Rules {
		for _, kind := range []int{api.Star, api.Plus} {
			for _, part := range []api.Node{ref(rule.Name), rule.Body} {
				tried := ruled(append([]api.Rule{{Name: "a", At: 1, Body: placed(kind, 70, part)}}, g.Rules...)...)
				// The rule s, behind it, is one of a loop in any case.
				want := strings.Index(eight, "'x'?)+")
				if isZero(rule.Name) {
					want = 70
				}
				if rule.Name == "s" && part.Kind == api.Plus {
					want = part.At
				}
				isFault(t, tried, api.ErrLoop, want)
			}
		}
	}
}

// P8.1: repetitions that may and that may not be.
func TestLoops(t *testing.T) {
	for source, at := range map[string]int{
		"a <- ()*":                        6,
		"a <- ()+":                        6,
		"a <- ''*":                        5,
		"a <- ''+":                        5,
		"a <- (!.)*":                      6,
		"a <- (&.)+":                      6,
		"a <- ('x'*)*":                    6,
		"a <- ('x'*)+":                    6,
		"a <- ('x'? 'y'?)*":               6,
		"a <- ('x' / ())*":                6,
		"a <- ('x' / 'y' / !'z')+":        6,
		"a <- (!(!'x' .))*":               6,
		"a <- b* b <- c c <- 'x'?":        5,
		"a <- 'x' / (. b+) b <- () / .":   14,
		"a <- (([]?)+)":                   7,
		"a <- ([] / ())+":                 6,
		"a <- ('x'+ / !'x' !'y')*":        6,
		"a <- !(&('x' / ('y' ''*)?))":     20,
		"a <- 'x' (a / ())+":              10,
		"a <- '(' a ')' / 'x'? c <- . a*": 29,
	} {
		isFault(t, parsed(t, source), api.ErrLoop, at)
	}
	for _, source := range []string{
		"a <- .*", "a <- .+", "a <- 'x'* 'y'+", "a <- []*", "a <- []+", "a <- [x]+", "a <- ('x' 'y'?)*", "a <- ('x'? 'y')+", "a <- ('x'+)*", "a <- ('x'+)+",
		"a <- (('x'?)? .)*", "a <- (!'x' .)*", "a <- (&'x' [])*", "a <- 'x'?", "a <- ('x'*)?", "a <- !('x'*)", "a <- &('x'*)", "a <- ('x'* / ())?", "a <- ([] ())*", "a <- (() [])+", "a <- (() / 'x') ('y' / [])*",
		"a <- ('x'+ / 'y' ())*", "a <- (!() 'x'?)*", "a <- ('(' a? ')')*", "a <- ()? ()",
	} {
		isSound(t, parsed(t, source), 0)
	}
}

// P8.1: of several the first one: rule by rule, from the front, a node ahead of its parts; not by their places.
func TestFirstLoop(t *testing.T) {
	for source, at := range map[string]int{
		"a <- ''* ''+":                        5,
		"a <- 'x'* ()+ / a":                   11,
		"a <- ('x'? / ''*)*":                  6,
		"a <- 'x'+ ('y' ('z'?)*)* ('x'*)*":    16,
		"a <- 'x' ('y' ''* / ''+)* b <- ''*":  14,
		"b <- . c <- ''* a <- ''+":            12,
		"a <- b c b <- 'x'* c <- ('y'?)* ''+": 25,
	} {
		isFault(t, parsed(t, source), api.ErrLoop, at)
	}
	inner := placed(api.Star, 2, bare(api.Empty))
	for _, at := range []int{0, -1, 3, api.MinInt, api.MaxInt} {
		part := over(api.Alt, bare(api.Any), bare(api.Empty), inner)
		isFault(t, ruled(api.Rule{Name: "a", At: 9, Body: placed(api.Plus, at, part)}), api.ErrLoop, at)
		isFault(t, ruled(api.Rule{Name: "a", At: 9, Body: over(api.Seq, bare(api.Any), placed(api.Star, at, part), inner)}), api.ErrLoop, at)
		isFault(t, ruled(api.Rule{Name: "a", Body: bare(api.Any)}, api.Rule{Name: "b", Body: over(api.Not, placed(api.Star, at, ref("c")))}, api.Rule{Name: "c", Body: over(api.Opt, inner)}), api.ErrLoop, 2)
		isFault(t, ruled(api.Rule{Name: "a", Body: bare(api.Any)}, api.Rule{Name: "b", Body: over(api.Not, placed(api.Star, at, ref("c")))}, api.Rule{Name: "c", Body: over(api.Alt, lit("x"), bare(api.Empty), inner)}), api.ErrLoop, at)
	}
	// A Star of what never fails is itself never Zero: the outer one is no loop, the inner one is.
	isFault(t, ruled(api.Rule{Name: "a", Body: placed(api.Star, 7, inner)}), api.ErrLoop, 2)
	isFault(t, ruled(api.Rule{Name: "a", Body: placed(api.Plus, 7, placed(api.Plus, 5, inner))}), api.ErrLoop, 2)
}

// P8.1: a loop is told ahead of a rule that comes back, wherever both stand.
func TestLoopAheadOfLeft(t *testing.T) {
	for source, at := range map[string]int{
		"a <- a / ''*":               9,
		"a <- a b <- b c <- . ('')+": 22,
		"a <- 'x'? a / 'y' b <- ''*": 23,
	} {
		isFault(t, parsed(t, source), api.ErrLoop, at)
	}
	// What begins with itself alone may come to nothing at all, and so is no loop.
	isFault(t, parsed(t, "a <- a*"), api.ErrLeft, 0)
	isFault(t, parsed(t, "a <- (a / ())+"), api.ErrLeft, 0)
	isFault(t, parsed(t, "a <- . b <- (() a / b)* c c <- c?"), api.ErrLeft, 7)
	isFault(t, parsed(t, "a <- ('' / a)*"), api.ErrLoop, 6)
}

// P8.1: the first rule that comes back, not one that only leads to such.
func TestLeft(t *testing.T) {
	for source, at := range map[string]int{
		"a <- a":                        0,
		"a <- a 'x' / 'y'":              0,
		"a <- 'y' / a 'x'":              0,
		"a <- () / a":                   0,
		"a <- () a":                     0,
		"a <- '' a":                     0,
		"a <- !. a":                     0,
		"a <- &. a":                     0,
		"a <- 'x'? a":                   0,
		"a <- 'x'* a":                   0,
		"a <- !a":                       0,
		"a <- &a":                       0,
		"a <- a?":                       0,
		"a <- a+":                       0,
		"a <- !(!(a / 'x'))":            0,
		"a <- ('x' / ()) ('y' / a)":     0,
		"a <- b b <- b":                 7,
		"a <- b b <- c c <- b":          7,
		"a <- b b <- c c <- c":          14,
		"a <- b b <- a":                 0,
		"a <- b b <- c c <- a":          0,
		"a <- . b <- a c <- d d <- c":   14,
		"a <- d b <- c c <- b d <- .":   7,
		"a <- b? a / 'x' b <- 'y'":      0,
		"a <- 'x' b b <- c c <- &b 'y'": 11,
		"a <- c / b b <- . c <- b / 'x'? d d <- !c": 18,
		"a <- 'x' a / b b <- 'y' a / 'z'? b":        15,
		"# note\n  a <- 'x'\n  b <- b":              20,
	} {
		isFault(t, parsed(t, source), api.ErrLeft, at)
	}
	for _, at := range []int{0, -1, -7, 1 << 40, api.MinInt, api.MaxInt} {
		g := ruled(api.Rule{Name: "a", At: 3, Body: ref("b")}, api.Rule{Name: "b", At: at, Body: api.Node{Kind: api.Ref, Text: "b", At: 5}}, api.Rule{Name: "c", At: 1, Body: ref("c")})
		isFault(t, g, api.ErrLeft, at)
	}
}

// P8.1, P8.3: rules that use themselves, and each other, behind what takes a byte.
func TestSoundGrammars(t *testing.T) {
	for source, ranks := range map[string]string{
		"a <- .":                                 "0",
		"a <- 'x' a / 'y'":                       "0",
		"a <- 'x' a":                             "0",
		"a <- . !a":                              "0",
		"a <- 'x'+ a / ()":                       "0",
		"a <- [] a":                              "0",
		"a <- b b <- .":                          "1 0",
		"b <- . a <- b":                          "0 1",
		"a <- 'x' b b <- a":                      "0 1",
		"a <- b b <- 'x' a":                      "1 0",
		"a <- b c b <- c* 'x' c <- d d <- .":     "3 2 1 0",
		"a <- b / c b <- c / d c <- d d <- .":    "3 2 1 0",
		"a <- b / d b <- c c <- d d <- .":        "3 2 1 0",
		"a <- d / b b <- c c <- d d <- . e <- d": "3 2 1 0 1",
		"e <- t ('+' t)* t <- [0-9] / '(' e ')'": "1 0",
		"e <- t (s t)* s <- '+' t <- f f <- n n <- [0-9]+":      "3 0 2 1 0",
		"a <- !b . b <- &c c <- 'x' a":                          "2 1 0",
		"a <- 'x'? b b <- 'y' b? c c <- a":                      "1 0 2",
		"start <- (!end line)* end <- '.' line <- end? 'x' end": "2 0 1",
	} {
		isSound(t, parsed(t, source), listed(ranks)[0]...)
	}
}

// P8.2: of each kind of expression, at a place that may be come to with nothing consumed.
func TestBeginsOfAllKinds(t *testing.T) {
	for body, want := range map[string]string{
		"()":                         "",
		"'b'":                        "",
		"[b]":                        "",
		".":                          "",
		"b":                          "1",
		"a":                          "0",
		"b / c":                      "1 2",
		"d / c / b / a":              "0 1 2 3",
		"() / b":                     "1",
		"'x' / b":                    "1",
		"b 'x' / c 'x' / 'x' d":      "1 2",
		"b?":                         "1",
		"b*":                         "1",
		"b+":                         "1",
		"&b":                         "1",
		"!b":                         "1",
		"b c":                        "1",
		"b? c":                       "1 2",
		"b* c d":                     "1 2",
		"b? c? d?":                   "1 2 3",
		"&b c":                       "1 2",
		"!b c d":                     "1 2",
		"b+ c":                       "1",
		"'x' b":                      "",
		". b / c":                    "2",
		"() b":                       "1",
		"'' () b c":                  "1",
		"[] b":                       "",
		"!() b":                      "",
		"!'x' b":                     "1",
		"(b / ()) c":                 "1 2",
		"(() / b) c":                 "1 2",
		"(b / 'x') c":                "1",
		"('x' b)? c":                 "2",
		"(b? c?) d":                  "1 2 3",
		"(b? c) d":                   "1 2",
		"!(b? c) d":                  "1 2 3",
		"((((b))))* (c / (d c)+)":    "1 2 3",
		"d d b / d b":                "3",
		"d? c? d? b? a":              "0 1 2 3",
		"(b c / d)? 'x' a":           "1 3",
		"&(b? (c / 'x') d) (a / ())": "0 1 2",
		"'x'? 'y'* b / . c":          "1",
		"'x'? 'y'+ b":                "",
	} {
		g := parsed(t, "a <- "+body+" b <- . c <- . d <- .")
		hasBegins(t, g, append(listed(want), nil, nil, nil))
	}
}

// P8.2: behind all that the parts ahead may come to, whatever follows.
func TestBeginsBehindAllParts(t *testing.T) {
	g := parsed(t, eight)
	for i, one := range g.Rules {
		for j, two := range g.Rules {
			want := []int{0}
			if isZero(one.Name) {
				want = append(want, j)
			}
			if isZero(one.Name) && isZero(two.Name) {
				want = append(want, 8)
			}
			want = append(want, i)
			slices.Sort(want)
			want = slices.Compact(want)
			body := over(api.Alt, ref("n"), over(api.Seq, ref(one.Name), ref(two.Name), ref("last"), ref("a")))
			rules := append(slices.Clone(g.Rules), api.Rule{Name: "last", Body: bare(api.Any)}, api.Rule{Name: "a", Body: body})
			begins, err := Begins(ruled(rules...))
			if err != nil || len(begins) != 10 || !slices.Equal(begins[9], want) {
				t.Error(one.Name, two.Name, begins, err, "not", want)
			}
		}
	}
}

// P8.2: behind each kind of one part, and a choice, over all that the part may come to.
func TestBeginsBehindAllKinds(t *testing.T) {
	g := parsed(t, eight)
	for i, rule := range g.Rules {
		part := ref(rule.Name)
		hasZero, hasSome, hasFail := isZero(rule.Name), strings.Contains(rule.Name, "s"), strings.Contains(rule.Name, "f")
		for _, x := range []struct {
			ahead  api.Node
			passes bool
		}{
			{over(api.Opt, part), hasZero || hasFail},
			{over(api.Star, part), hasFail},
			{over(api.Plus, part), hasZero && hasFail},
			{over(api.And, part), hasZero || hasSome},
			{over(api.Not, part), hasFail},
			{over(api.Not, over(api.Not, part)), hasZero || hasSome},
			{over(api.Alt, part, bare(api.Any)), hasZero},
			{over(api.Alt, part, bare(api.Empty)), hasZero || hasFail},
			{over(api.Not, over(api.Seq, part, bare(api.Set))), hasZero || hasSome || hasFail},
		} {
			want := []int{i}
			if x.passes {
				want = append(want, 8)
			}
			rules := append(slices.Clone(g.Rules), api.Rule{Name: "last", Body: bare(api.Any)}, api.Rule{Name: "a", Body: over(api.Seq, x.ahead, ref("last"))})
			begins, err := Begins(ruled(rules...))
			if err != nil || len(begins) != 10 || !slices.Equal(begins[9], want) {
				t.Error(printer.Expr(x.ahead), begins, err, "not", want)
			}
		}
	}
}

// P8.2: of grammars that are not sound, too.
func TestBeginsOfWhatIsNotSound(t *testing.T) {
	for source, want := range map[string]string{
		"a <- a":                              "0",
		"a <- ()* b b <- a":                   "; 0",
		"a <- b* c b <- 'x'? c <- .":          "1;;",
		"a <- (b*)* c b <- 'x'? c <- .":       "1;;",
		"a <- b c b <- b c <- .":              "1;1;",
		"a <- b? c b <- b c <- .":             "1;1;",
		"a <- (b / ()) c b <- b c <- .":       "1;1;",
		"a <- (() / b) c b <- b c <- .":       "1 2;1;",
		"a <- b c c <- a / b b <- () / c":     "1 2;0 2;1",
		"a <- 'x' b b <- c c <- &b 'y'":       ";2;1",
		"a <- (a / b)* (b / c)+ b <- . c <- ": "0 1;;",
	} {
		hasBegins(t, parsed(t, source), listed(want))
	}
}

// name is one of a rule, for each place another one.
func name(place int) string { return "r" + strconv.Itoa(place) }

// rowOf is a grammar of MaxRules rules, each of which has the next one in a body, the last one an end.
func rowOf(body func(next api.Node) api.Node, end api.Node) api.Grammar {
	var g api.Grammar
	for i := range api.MaxRules - 1 {
		g.Rules = append(g.Rules, api.Rule{Name: name(i), At: i * 10, Body: body(ref(name(i + 1)))})
	}
	g.Rules = append(g.Rules, api.Rule{Name: name(api.MaxRules - 1), At: 630, Body: end})
	return g
}

// P8.1 to P8.3: at MaxRules rules, in rows and rings, whichever way they go.
func TestMostRules(t *testing.T) {
	var falling, rising, none []int
	var next, ring [][]int
	for i := range api.MaxRules {
		falling = append(falling, api.MaxRules-1-i)
		rising = append(rising, i)
		none = append(none, 0)
		next = append(next, []int{i + 1})
		ring = append(ring, []int{(i + 1) % api.MaxRules})
	}
	next[api.MaxRules-1] = nil
	asItIs := func(next api.Node) api.Node { return next }
	looked := func(next api.Node) api.Node { return over(api.Seq, over(api.Not, next), bare(api.Any)) }
	behind := func(next api.Node) api.Node { return over(api.Seq, bare(api.Any), next) }
	row := rowOf(asItIs, bare(api.Any))
	hasBegins(t, row, next)
	isSound(t, row, falling...)
	isSound(t, rowOf(looked, over(api.Star, bare(api.Any))), falling...)
	none[api.MaxRules-1] = 1
	isSound(t, rowOf(behind, ref(name(0))), none...)
	slices.Reverse(row.Rules)
	isSound(t, row, rising...)
	for _, body := range []func(api.Node) api.Node{asItIs, looked} {
		round := rowOf(body, ref(name(0)))
		hasBegins(t, round, ring)
		isFault(t, round, api.ErrLeft, 0)
	}
	isFault(t, rowOf(asItIs, ref(name(63))), api.ErrLeft, 630)
	isFault(t, rowOf(asItIs, ref(name(40))), api.ErrLeft, 400)
	isFault(t, rowOf(asItIs, placed(api.Plus, 5, lit(""))), api.ErrLoop, 5)
}

// P8.2, P8.3: rules of which each begins with all behind it.
func TestMostBegins(t *testing.T) {
	const count = 40
	var g api.Grammar
	var begins [][]int
	var ranks []int
	for i := range count {
		body := over(api.Alt, bare(api.Any), bare(api.Any))
		var list []int
		for j := i + 1; j < count; j++ {
			body.Subs = append([]api.Node{ref(name(j))}, body.Subs...)
			list = append(list, j)
		}
		g.Rules = append(g.Rules, api.Rule{Name: name(i), Body: body})
		begins = append(begins, list)
		ranks = append(ranks, count-1-i)
	}
	hasBegins(t, g, begins)
	isSound(t, g, ranks...)
	g.Rules[count-1] = api.Rule{Name: name(count - 1), Body: over(api.And, ref(name(17)))}
	isFault(t, g, api.ErrLeft, 0)
}

// P8.1 to P8.3, with W1: sources of full length are looked through as fast as others.
func TestLongestSources(t *testing.T) {
	for _, part := range []string{"!b ", "b* ", "(b/c)*", "((b c)+)+", "(((b?)c?)!b)?", "&(!b/c)"} {
		source := "b<-. c<-[] a<-"
		g := parsed(t, source+strings.Repeat(part, (api.MaxSource-len(source))/len(part)*2/3))
		begins, err := Begins(g)
		if err != nil || len(begins) != 3 || len(begins[2]) == 0 {
			t.Error(part, begins, err)
		}
		isSound(t, g, 0, 0, 1)
	}
	// The names of all rules are as long as may be, and of each rule nothing at all can be told.
	var g api.Grammar
	for i := range api.MaxRules {
		long := name(i) + strings.Repeat("n", api.MaxName-len(name(i)))
		g.Rules = append(g.Rules, api.Rule{Name: long, At: i, Body: over(api.Seq, over(api.Opt, bare(api.Any)), ref(long))})
	}
	isFault(t, g, api.ErrLeft, 0)
	if begins, err := Begins(g); err != nil || !slices.Equal(begins[63], []int{63}) {
		t.Error(begins, err)
	}
	// As deep as may be.
	isSound(t, ruled(api.Rule{Name: "a", Body: within(api.MaxNest+1, api.Plus, ref("b"))}, api.Rule{Name: "b", Body: bare(api.Any)}), 1, 0)
	isFault(t, ruled(api.Rule{Name: "a", Body: within(api.MaxNest, api.Plus, placed(api.Star, 8, ref("b")))}, api.Rule{Name: "b", Body: bare(api.Any)}), api.ErrLoop, 0)
	isFault(t, ruled(api.Rule{Name: "a", Body: within(api.MaxNest, api.Not, placed(api.Star, 8, ref("b")))}, api.Rule{Name: "b", Body: lit("")}), api.ErrLoop, 8)
}

// P8.1, P8.2: names are held against each other whole.
func TestNamesAreWhole(t *testing.T) {
	long := strings.Repeat("n", api.MaxName-1)
	g := parsed(t, long+"a <- "+long+"b / A A <- a a <- 'A' "+long+"b <- a")
	hasBegins(t, g, [][]int{{1, 3}, {2}, {}, {2}})
	isSound(t, g, 2, 1, 0, 1)
}

// drawnNode is a node with all that is in it.
func drawnNode(n api.Node) string {
	out := strconv.Itoa(n.Kind) + strconv.Quote(n.Text) + "@" + strconv.Itoa(n.At)
	for _, word := range n.Class {
		out += "," + strconv.FormatUint(word, 16)
	}
	for _, sub := range n.Subs {
		out += "(" + drawnNode(sub) + ")"
	}
	return out
}

// P8.4: what is handed in, its spare room too, is as it was; nothing of it is kept.
func TestNothingIsChangedOrKept(t *testing.T) {
	spare := append(make([]api.Node, 0, 5), placed(api.Opt, 4, ref("b")), ref("c"))
	_ = append(spare, bare(99), ref("d"))
	rules := append(make([]api.Rule, 0, 5), api.Rule{Name: "a", At: 2, Body: api.Node{Kind: api.Seq, Subs: spare}}, api.Rule{Name: "b", At: 1, Body: lit("x")}, api.Rule{Name: "c", Body: placed(api.Star, 6, ref("b"))})
	_ = append(rules, api.Rule{Name: "d", Body: ref("q"), At: 9})
	g := api.Grammar{Rules: rules}
	look := func() string {
		out := drawnNode(over(api.Seq, spare[:5]...))
		for _, rule := range rules[:5] {
			out += rule.Name + "@" + strconv.Itoa(rule.At) + drawnNode(rule.Body)
		}
		return out
	}
	before := look()
	begins, err := Begins(g)
	ranks, err2 := Ranks(g)
	if err != nil || err2 != nil || Check(g) != nil || look() != before {
		t.Error("what is handed in has changed:", look(), err, err2)
	}
	rules[1].Body = ref("a")
	isFault(t, g, api.ErrLeft, 2)
	rules[1].Body = bare(api.Empty)
	isFault(t, g, api.ErrLoop, 6)
	rules[2].Body.Subs[0] = bare(api.Any)
	hasBegins(t, g, [][]int{{1, 2}, {}, {}})
	isSound(t, g, 1, 0, 0)
	rules[1].Name = "e"
	refuses(t, g, api.ErrName, 0)
	if !slices.EqualFunc(begins, [][]int{{1, 2}, {}, {1}}, slices.Equal[[]int]) || !slices.Equal(ranks, []int{2, 0, 1}) {
		t.Error("an answer changes with what was handed in:", begins, ranks)
	}
}

// span is a piece of memory.
type span struct{ from, to uintptr }

// stretch is the memory of a list, its spare room too.
func stretch[T any](list []T) span {
	from := uintptr(unsafe.Pointer(unsafe.SliceData(list)))
	return span{from, from + uintptr(cap(list))*unsafe.Sizeof(*new(T))}
}

// meet tells whether two of these pieces have a byte in common.
func meet(spans []span) bool {
	for i, one := range spans {
		for _, two := range spans[:i] {
			if one.from < two.to && two.from < one.to {
				return true
			}
		}
	}
	return false
}

// P8.4, with W6: no two lists that are answered share memory, spare room too.
func TestAnswersAreNewMemory(t *testing.T) {
	g := parsed(t, "a <- b? c / d d b <- c c / d c <- 'x' d <- c / . e <- a / b / c / d")
	var spans []span
	for range 3 {
		begins, err := Begins(g)
		ranks, err2 := Ranks(g)
		if err != nil || err2 != nil {
			t.Fatal(err, err2)
		}
		spans = append(spans, stretch(begins), stretch(ranks))
		for i, list := range begins {
			spans = append(spans, stretch(list))
			clear(list[:cap(list)])
			begins[i] = nil
		}
		clear(ranks[:cap(ranks)])
	}
	if meet(spans) {
		t.Error("answers share memory")
	}
	hasBegins(t, g, [][]int{{1, 2, 3}, {2, 3}, {}, {2}, {0, 1, 2, 3}})
	isSound(t, g, 3, 2, 0, 1, 4)
}

// P8.1, with W4: a fault is made anew, so that nobody's change of it is seen.
func TestFaultsAreNew(t *testing.T) {
	for _, source := range []string{"a <- ()*", "a <- a"} {
		g := parsed(t, source)
		one, two := Check(g).(*api.Fault), Check(g).(*api.Fault)
		if one == two || *one != *two {
			t.Error(one, two)
		}
		one.Code, one.At = 0, 99
		if three := Check(g).(*api.Fault); *three != *two {
			t.Error(three)
		}
	}
}

// step is a node on the way to another one, and which of its parts is next.
type step struct {
	node api.Node
	part int
}

// eachNode hands out an expression and all within it, from the front, each with the way to it.
func eachNode(n api.Node, way []step, visit func(n api.Node, way []step)) {
	visit(n, way)
	for i, sub := range n.Subs {
		eachNode(sub, append(slices.Clone(way), step{n, i}), visit)
	}
}

// asked tells whether an expression may be Zero, asked of the whole grammar.
func asked(t *testing.T, g api.Grammar, n api.Node) bool {
	t.Helper()
	out, err := nullable.Expr(g, n)
	if err != nil {
		t.Fatal(shown(g), drawnNode(n), err)
	}
	return out.Zero
}

// isFirst tells whether the end of a way may be come to with nothing consumed: each Seq on it has only what may be Zero ahead.
func isFirst(t *testing.T, g api.Grammar, way []step) bool {
	t.Helper()
	for _, s := range way {
		if s.node.Kind != api.Seq {
			continue
		}
		for _, ahead := range s.node.Subs[:s.part] {
			if !asked(t, g, ahead) {
				return false
			}
		}
	}
	return true
}

// judgedBegins tells for each two rules whether one begins with the other, by the ways to its Refs.
func judgedBegins(t *testing.T, g api.Grammar) [][]bool {
	t.Helper()
	out := make([][]bool, len(g.Rules))
	for i, rule := range g.Rules {
		out[i] = make([]bool, len(g.Rules))
		eachNode(rule.Body, nil, func(n api.Node, way []step) {
			if n.Kind == api.Ref && isFirst(t, g, way) {
				for j := range g.Rules {
					out[i][j] = out[i][j] || g.Rules[j].Name == n.Text
				}
			}
		})
	}
	return out
}

// judgedFault is what Check must answer of a grammar whose names are right.
func judgedFault(t *testing.T, g api.Grammar, begins [][]bool) api.Fault {
	t.Helper()
	var loops []int
	for _, rule := range g.Rules {
		eachNode(rule.Body, nil, func(n api.Node, way []step) {
			if (n.Kind == api.Star || n.Kind == api.Plus) && asked(t, g, n.Subs[0]) {
				loops = append(loops, n.At)
			}
		})
	}
	if len(loops) > 0 {
		return api.Fault{Code: api.ErrLoop, At: loops[0]}
	}
	for i, row := range closed(begins) {
		if row[i] {
			return api.Fault{Code: api.ErrLeft, At: g.Rules[i].At}
		}
	}
	return api.Fault{At: -1}
}

// closed is to which rules one comes from each: as long as there is a way by a rule in between, it is one.
func closed(begins [][]bool) [][]bool {
	out := make([][]bool, len(begins))
	for i := range begins {
		out[i] = slices.Clone(begins[i])
	}
	for by := range out {
		for i := range out {
			for j := range out {
				out[i][j] = out[i][j] || out[i][by] && out[by][j]
			}
		}
	}
	return out
}

// places are those at which a row says yes.
func places(row []bool) []int {
	var out []int
	for i, yes := range row {
		if yes {
			out = append(out, i)
		}
	}
	return out
}

// checkGrammar holds all calls to the chapter at a grammar whose names are right, and tells what is wrong with it.
func checkGrammar(t *testing.T, g api.Grammar) api.Errno {
	t.Helper()
	judged := judgedBegins(t, g)
	var want [][]int
	for _, row := range judged {
		want = append(want, places(row))
	}
	hasBegins(t, g, want)
	fault := judgedFault(t, g, judged)
	if fault.Code != api.OK {
		isFault(t, g, fault.Code, fault.At)
		if fault.Code == api.ErrLeft {
			hasRing(t, g, fault.At)
		}
		return fault.Code
	}
	ranks, err := Ranks(g)
	if err != nil || len(ranks) != len(g.Rules) || Check(g) != nil {
		t.Fatal(shown(g), ranks, err, Check(g))
	}
	areRanks(t, g, want, ranks)
	checkPruned(t, g, ranks)
	return api.OK
}

// areRanks holds ranks to what they are: each is what those with which its rule begins say, and above all of them.
func areRanks(t *testing.T, g api.Grammar, begins [][]int, ranks []int) {
	t.Helper()
	for i, list := range begins {
		want := 0
		for _, next := range list {
			if ranks[i] <= ranks[next] {
				t.Error(shown(g), ranks, "do not fall from", i, "to", next)
			}
			want = max(want, 1+ranks[next])
		}
		if ranks[i] != want {
			t.Error(shown(g), ranks, "has another rank at", i, "than", want)
		}
	}
}

// checkPruned holds what stays of a sound grammar to be sound, with the ranks that its rules had.
func checkPruned(t *testing.T, g api.Grammar, ranks []int) {
	t.Helper()
	pruned, err := scope.Prune(g)
	if err != nil {
		t.Fatal(shown(g), err)
	}
	var want []int
	for _, rule := range pruned.Rules {
		want = append(want, ranks[scope.Find(g, rule.Name)])
	}
	isSound(t, pruned, want...)
}

// hasRing holds a grammar that Check refuses to a row of rules, each of which begins with the next one, the last one with the first one.
func hasRing(t *testing.T, g api.Grammar, at int) {
	t.Helper()
	begins, _ := Begins(g)
	for from, rule := range g.Rules {
		if rule.At != at {
			continue
		}
		row := slices.Clone(begins[from])
		for i := 0; i < len(row); i++ {
			if row[i] == from {
				return
			}
			for _, next := range begins[row[i]] {
				if !slices.Contains(row, next) {
					row = append(row, next)
				}
			}
		}
	}
	t.Error(shown(g), "has no ring from the rule at", at)
}

// dice are numbers that look like chance, the same ones in every run.
type dice uint64

// roll is a number below n.
func (d *dice) roll(n int) int {
	*d = *d*6364136223846793005 + 1442695040888963407
	return int(*d>>33) % n
}

// node is a tree, up to so many nodes deep, of names of rules up to a number.
func (d *dice) node(deep, names int) api.Node {
	kind := 1 + d.roll(12)
	if deep == 0 {
		kind = 1 + d.roll(5)
	}
	n := api.Node{Kind: kind, At: d.roll(1 << 20)}
	switch {
	case kind == api.Lit:
		n.Text = "xy"[:d.roll(3)]
	case kind == api.Set:
		n.Class[d.roll(4)] = uint64(d.roll(2))
	case kind == api.Ref:
		n.Text = name(d.roll(names))
	case kind == api.Seq || kind == api.Alt:
		for range 2 + d.roll(3) {
			n.Subs = append(n.Subs, d.node(deep-1, names))
		}
	case kind > api.Alt:
		n.Subs = []api.Node{d.node(deep-1, names)}
	}
	return n
}

// P8.1, P8.2, P8.3, P8.5: drawn grammars, against the chapter told another way.
func TestDrawnGrammars(t *testing.T) {
	d := dice(8)
	told := map[api.Errno]int{}
	high := 0
	for range 5000 {
		var g api.Grammar
		count := 1 + d.roll(7)
		for i := range count {
			g.Rules = append(g.Rules, api.Rule{Name: name(i), Body: d.node(d.roll(4), count), At: d.roll(1 << 20)})
		}
		told[checkGrammar(t, g)]++
		if ranks, _ := Ranks(g); len(ranks) > 0 && slices.Max(ranks) > 1 {
			high++
		}
	}
	if told[api.OK] < 2000 || told[api.ErrLoop] < 1000 || told[api.ErrLeft] < 600 || high < 100 {
		t.Error("few grammars of a kind:", told, high)
	}
}

// P8.1, P8.3, P8.5: all grammars of three rules, whichever begin with each other.
func TestAllBeginsOfThreeRules(t *testing.T) {
	told := map[api.Errno]int{}
	for bits := range 1 << 9 {
		var g api.Grammar
		for i := range 3 {
			body := over(api.Alt, bare(api.Any), bare(api.Any))
			for j := range 3 {
				if bits>>(3*i+j)&1 == 1 {
					body.Subs = append([]api.Node{ref(name(j))}, body.Subs...)
				}
			}
			g.Rules = append(g.Rules, api.Rule{Name: name(i), Body: body, At: i * 7})
		}
		told[checkGrammar(t, g)]++
	}
	// Of three things there are 25 ways in which none leads back to itself.
	if told[api.OK] != 25 || told[api.ErrLeft] != 1<<9-25 {
		t.Error(told)
	}
}

// checkSource holds all calls to the chapter at a source's tree.
func checkSource(t *testing.T, s string) {
	g, err := syntax.Parse(s)
	if err != nil || len(s) > 600 {
		return
	}
	if err := scope.Check(g); err != nil {
		refuses(t, g, api.Code(err), api.At(err))
		return
	}
	checkGrammar(t, g)
}

func FuzzSound(f *testing.F) {
	for _, s := range []string{"a <- b? a / 'x' b <- 'y'", "a <- 'y' a / b b <- c* 'x' c <- .", "a <- ('x'?)*", "a <- b", "a <- . a <- .", "a<-(b)*!b b<-a/'c'", "a<-"} {
		f.Add(s)
	}
	f.Fuzz(checkSource)
}
