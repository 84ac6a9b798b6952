package wal

import (
	"fmt"
	"strings"
	"testing"

	"muntin/api"
)

// P19.2: what may not be saved; the numbers ahead of the lengths, whatever entry they are in. Nothing is done.
func TestSaveRefuses(t *testing.T) {
	for _, x := range []string{
		"save -1 0 -> ErrArg", "save 0 -1 -> ErrArg", "save MinInt MinInt -> ErrArg", "save -1 1 4.3.0:a -> ErrArg", "save 3 MinInt 7.3.0:a -> ErrArg",
		"save 3 1 2.3.0: -> ErrArg", "save 3 1 1.3.0: -> ErrArg", "save 3 1 0.3.0: -> ErrArg", "save 3 1 -1.3.0: -> ErrArg", "save 3 1 MinInt.3.0: -> ErrArg",
		"save 3 1 6.3.0: -> ErrArg", "save 3 1 MaxInt.3.0: -> ErrArg", "save 2 1 6.3.0: -> ErrArg",
		"save 3 1 5.3.0: 7.3.0: -> ErrArg", "save 3 1 5.3.0: 6.3.0: 8.3.0: -> ErrArg", "save 3 1 3.3.0: 5.3.0: -> ErrArg", "save 3 1 4.3.0: 3.3.0: 5.3.0: -> ErrArg",
		"save 3 1 5.3.0: 2.3.0: -> ErrArg", "save 3 1 6.3.0: 5.3.0: -> ErrArg",
		"save 3 1 5.-1.0: -> ErrArg", "save 3 1 5.3.-1: -> ErrArg", "save 3 1 5.MinInt.0: -> ErrArg", "save 3 1 5.3.0: 6.3.MinInt: -> ErrArg",
		"save 3 1 5.3.0*65537 -> ErrLong", "save 2 1 5.3.0*65537 -> ErrLong", "save 3 1 5.3.0: 6.3.0*65537 7.3.0: -> ErrLong", "save 3 1 5.3.0*65537 6.3.0*65537 -> ErrLong",
		"save -1 1 5.3.0*65537 -> ErrArg", "save 3 1 5.3.0*65537 7.3.0: -> ErrArg", "save 3 1 5.3.0*65537 6.3.-1: -> ErrArg", "save 3 1 5.-3.0*65537 -> ErrArg",
		"save 3 1 6.3.0*65537 -> ErrArg", "save 3 1 5.3.0*65537 6.3.0: 6.-3.0: -> ErrArg",
	} {
		w := fresh(t, "put log1 b2.1 s2.1 e3.1.0:a e4.2.0:b", "open", "arm 0 1", x, "down -> false", "see -> 2 1, 2 1, 3.1.0:a 4.2.0:b")
		w.runs(t, "files -> log1 b2.1 s2.1 e3.1.0:a e4.2.0:b|", "arm -1 0", "save 3 1 5.3.0:c", "see -> 3 1, 2 1, 3.1.0:a 4.2.0:b 5.3.0:c")
	}
}

// P19.2: an index of which no greater one is may be the last one; there is none behind it.
func TestSaveAtTheGreatestIndex(t *testing.T) {
	fresh(t, "open", "compact MaxInt-1 0", "save 1 1 MaxInt.0.0:a MaxInt.MaxInt.MaxInt:b", "save 1 1 MinInt.0.0: -> ErrArg", "save 1 1 0.0.0: -> ErrArg",
		"save 1 1 MaxInt-1.0.0: -> ErrArg", "save 1 1 MaxInt.1.0:c", "save MaxInt MaxInt", "open",
		"see -> 9223372036854775807 9223372036854775807, 9223372036854775806 0, 9223372036854775807.1.0:c",
		"compact MaxInt 1", "see -> 9223372036854775807 9223372036854775807, 9223372036854775807 1,", "save 1 1 MaxInt.0.0: -> ErrArg", "save 1 1 MinInt.0.0: -> ErrArg")
}

// P19.2: the state is put ahead of the entries, if the term or the vote is another one; then the entries; by one act, and made sure.
func TestSaveActs(t *testing.T) {
	was := []string{"put log1 b0.0 s2.1 e1.1.0:a", "open"}
	const ahead = "log1 b0.0 s2.1 e1.1.0:a"
	for _, x := range []struct{ call, put string }{
		{"save 2 1 2.2.0:b", " e2.2.0:b"}, {"save 3 1", " s3.1"}, {"save 2 0", " s2.0"}, {"save 1 2", " s1.2"}, {"save 0 0 1.3.1:c", " s0.0 e1.3.1:c"},
		{"save 3 1 2.2.0: 3.2.1:d 2.3.0:e 2.4.0:f 3.4.0:", " s3.1 e2.2.0: e3.2.1:d e2.3.0:e e2.4.0:f e3.4.0:"},
		{"save 2 1 1.1.0:a", " e1.1.0:a"}, {"save 2 1 2.2.0*65536", " e2.2.0*65536"},
	} {
		acts(t, was, x.call, ahead+"|", ahead+"|"+x.put, ahead+x.put+"|")
	}
}

// P19.2: if nothing is new, nothing is done, also where the disk is down.
func TestSaveOfNothing(t *testing.T) {
	acts(t, []string{"open"}, "save 0 0", "log1 b0.0 s0.0|")
	acts(t, []string{"open", "save 2 1 1.1.0:a"}, "save 2 1", "log1 b0.0 s0.0 s2.1 e1.1.0:a|")
	w := fresh(t, "open", "save 2 1", "arm 0 0", "put a -> ErrDown", "save 2 1", "save -1 1 -> ErrArg", "start", "save 2 2", "see -> 2 2, 0 0,")
	if err := w.l.Save(2, 2, []api.Entry{}); err != nil {
		t.Error(err)
	}
	w.runs(t, "files -> log1 b0.0 s0.0 s2.1 s2.2|")
}

// P19.2: a file with SegSize bytes is the last one no more; one with a byte less still is.
func TestSegments(t *testing.T) {
	if api.SegSize != 1024 {
		t.Fatal(api.SegSize)
	}
	for _, x := range []struct {
		fill int
		want string
	}{{-2, "log5"}, {-1, "log5"}, {0, "log6"}, {1, "log6"}, {900, "log6"}} {
		for _, calls := range [][]string{{"open", "%s"}, {"open", "%s", "open"}, {"open", "%s", "start", "open", "save 1 1"}} {
			head := len(bytesOf("b0.0", "s1.1", "e1.1.0*600"))
			fill := fmt.Sprintf("save 1 1 1.1.0*%d", 600+api.SegSize-head+x.fill)
			w := fresh(t, "put log5 b0.0 s1.1")
			for _, c := range calls {
				w.runs(t, strings.Replace(c, "%s", fill, 1))
			}
			first := w.d.Files()[0].Bytes
			if len(first) != api.SegSize+x.fill {
				t.Fatal(len(first), x.fill)
			}
			w.runs(t, "save 1 1 2.1.0:b")
			f := w.d.Files()
			at := len(f) - 1
			if f[at].Name != x.want || !strings.HasSuffix(wordsOf(f[at].Bytes, f[at].Sure), " e2.1.0:b|") || (at == 1) != (x.want == "log6") {
				t.Error(x, calls, filesIn(w.d))
			}
			w.runs(t, "save 1 1 3.1.0:c", "open", fmt.Sprintf("see -> 1 1, 0 0, 1.1.0*%d 2.1.0:b 3.1.0:c", 600+api.SegSize-head+x.fill))
		}
	}
}

// P19.2: the acts of a Save that begins a file: it is there by an Append, and made sure. (An Append of which no byte is done leaves a file
// without bytes.)
func TestActsOfAnotherFile(t *testing.T) {
	was := []string{"put log1 b0.0 e1.1.0*2000", "open"}
	const first = "log1 b0.0 e1.1.0*2000|; "
	acts(t, was, "save 0 0 2.1.0:b", first+"log2|", first+"log2| e2.1.0:b", first+"log2 e2.1.0:b|")
	acts(t, append(was, "save 0 0 2.1.0:b"), "save 0 1 3.1.0:c", first+"log2 e2.1.0:b|", first+"log2 e2.1.0:b| s0.1 e3.1.0:c", first+"log2 e2.1.0:b s0.1 e3.1.0:c|")
	fresh(t, append(was, "save 1 0 2.1.0*3000", "save 2 0", "save 2 0 3.1.0*1000", "save 3 0", "files -> "+first+"log2 s1.0 e2.1.0*3000|; log3 s2.0 e3.1.0*1000|; log4 s3.0|",
		"open", "see -> 3 0, 0 0, 1.1.0*2000 2.1.0*3000 3.1.0*1000", "compact 2 1", "files -> log5 b2.1 s3.0 e3.1.0*1000|",
		"save 3 1", "files -> log5 b2.1 s3.0 e3.1.0*1000|; log6 s3.1|", "compact 3 1", "save 3 2", "files -> log7 b3.1 s3.1 s3.2|")...)
}

// P19.2: once the greatest number is passed that Open takes, files go on rising.
func TestGreatNumbers(t *testing.T) {
	fresh(t, "put log100000000 b0.0 e1.1.0*2000", "open", "save 1 0", "files -> log100000000 b0.0 e1.1.0*2000|; log100000001 s1.0|", "open -> ErrLog",
		"compact 0 0", "files -> log100000002 b0.0 s1.0 e1.1.0*2000|", "see -> 1 0, 0 0, 1.1.0*2000")
}

// P19.2, P19.3: an act's error is told, and by each later Save and Compact, also by one that would do nothing, also if the power is back;
// but what may not be is told first. The log has what it had.
func TestAnActsErrorStays(t *testing.T) {
	for _, x := range []struct {
		call string
		acts int
	}{{"save 3 1 2.2.0:b", 2}, {"save 3 1", 2}, {"save 2 1 1.2.0:b", 2}, {"compact 1 1", 3}, {"compact 0 0", 3}, {"compact 7 7", 3}} {
		for k := range x.acts {
			for part := range 4 {
				w := fresh(t, "put log1 b0.0 s2.1", "append log2 e1.1.0:a", "open", fmt.Sprint("arm ", k, " ", part), x.call+" -> ErrDown", "down -> true")
				for range 2 {
					before := filesIn(w.d)
					w.runs(t, "see -> 2 1, 0 0, 1.1.0:a", "save 2 1 -> ErrDown", "save 3 2 -> ErrDown", "save 2 1 2.1.0:c -> ErrDown", "compact 1 1 -> ErrDown", "compact 0 0 -> ErrDown",
						"save -1 0 -> ErrArg", "save 2 1 3.1.0: -> ErrArg", "save 2 1 2.1.0*65537 -> ErrLong", "compact -1 0 -> ErrArg", "compact 0 -1 -> ErrArg", "files -> "+before, "start 1 1 1")
				}
			}
		}
	}
}

// P19.2, P19.3: where the power went elsewhere, that is told too, and stays.
func TestThePowerGoesElsewhere(t *testing.T) {
	for _, call := range []string{"save 3 1 2.2.0:b", "compact 1 1"} {
		fresh(t, "put log1 b0.0 s2.1 e1.1.0:a", "open", "arm 0 0", "put a -> ErrDown", call+" -> ErrDown", "start", "see -> 2 1, 0 0, 1.1.0:a", "save 2 1 -> ErrDown", "compact 0 0 -> ErrDown",
			"files -> log1 b0.0 s2.1 e1.1.0:a|", "open", call, "down -> false")
		fresh(t, "put log1 b0.0 s2.1 e1.1.0:a", "open", "arm 0 0", "put a -> ErrDown", "start", call, "down -> false")
	}
}

// P19.3: the base, and which entries stay.
func TestCompact(t *testing.T) {
	for _, x := range []struct{ call, want string }{
		{"compact 3 1", "3 1, 4.2.0:a 5.2.1:b 6.5.0:c"}, {"compact 4 2", "4 2, 5.2.1:b 6.5.0:c"}, {"compact 5 2", "5 2, 6.5.0:c"}, {"compact 6 5", "6 5,"},
		{"compact 3 2", "3 2,"}, {"compact 3 0", "3 0,"}, {"compact 4 1", "4 1,"}, {"compact 5 5", "5 5,"}, {"compact 6 2", "6 2,"}, {"compact 7 5", "7 5,"},
		{"compact 2 1", "2 1,"}, {"compact 2 0", "2 0,"}, {"compact 0 0", "0 0,"}, {"compact 0 1", "0 1,"}, {"compact 9 9", "9 9,"},
		{"compact MaxInt MaxInt", "9223372036854775807 9223372036854775807,"}, {"compact MaxInt 5", "9223372036854775807 5,"}, {"compact 4 MaxInt", "4 9223372036854775807,"},
	} {
		w := fresh(t, "put log3 b3.1 s7.2", "put log4 e4.2.0:a e5.2.1:b e6.5.0:c", "open", x.call, "see -> 7 2, "+x.want)
		index, of := w.l.Base()
		want := fmt.Sprintf("log5 b%d.%d s7.2", index, of)
		for _, e := range w.l.Entries() {
			want += " e" + textOf(e)
		}
		w.runs(t, "files -> "+want+"|", "open", "see -> 7 2, "+x.want)
	}
	for _, call := range []string{"compact -1 0", "compact 0 -1", "compact MinInt 1", "compact 3 MinInt", "compact MinInt MinInt", "compact 4 -1", "compact -1 5"} {
		fresh(t, "put log3 b3.1 s7.2 e4.2.0:a", "open", "arm 0 1", call+" -> ErrArg", "down -> false", "see -> 7 2, 3 1, 4.2.0:a", "files -> log3 b3.1 s7.2 e4.2.0:a|", "arm -1 0", "compact 3 1")
	}
}

// P19.3: what is behind a base goes on from there.
func TestSaveBehindACompact(t *testing.T) {
	fresh(t, "open", "save 1 1 1.1.0:a 2.1.0:b 3.1.0:c", "compact 2 1", "save 1 1 2.1.0: -> ErrArg", "save 1 1 5.1.0: -> ErrArg", "save 1 1 4.1.0:d", "see -> 1 1, 2 1, 3.1.0:c 4.1.0:d",
		"save 1 1 3.2.0:e", "see -> 1 1, 2 1, 3.2.0:e", "compact 8 2", "save 1 1 3.2.0: -> ErrArg", "save 1 1 9.2.0:f", "see -> 1 1, 8 2, 9.2.0:f",
		"compact 4 1", "see -> 1 1, 4 1,", "save 1 1 9.2.0: -> ErrArg", "save 1 1 5.2.0:g", "open", "see -> 1 1, 4 1, 5.2.0:g", "files -> log4 b4.1 s1.1 e5.2.0:g|")
}

// P19.3: the acts of a Compact: the new file wholly, then the others are removed by rising numbers.
func TestCompactActs(t *testing.T) {
	was := []string{"put a ~01", "put log9 b0.0", "put log10 e1.1.0:a", "append log11 e2.1.0:b", "open"}
	const kept = "; log12 b1.1 s0.0 e2.1.0:b|"
	acts(t, was, "compact 1 1",
		"a ~01|1; log10 e1.1.0:a|; log11 e2.1.0:b|; log9 b0.0|",
		"a ~01|1; log10 e1.1.0:a|; log11 e2.1.0:b|"+kept+"; log9 b0.0|",
		"a ~01|1; log10 e1.1.0:a|; log11 e2.1.0:b|"+kept,
		"a ~01|1; log11 e2.1.0:b|"+kept,
		"a ~01|1"+kept,
	)
	acts(t, []string{"open"}, "compact 0 0", "log1 b0.0 s0.0|", "log1 b0.0 s0.0|; log2 b0.0 s0.0|", "log2 b0.0 s0.0|")
}
