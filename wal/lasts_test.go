package wal

import (
	"fmt"
	"slices"
	"strings"
	"testing"
)

// life is a log's: calls by which each of its kinds of acts is done, over several files.
var life = []string{
	"save 1 1", "save 1 1 1.1.0:a 2.1.1:b", "save 2 1 2.2.0:c 3.2.0:d 3.2.0:e", "compact 2 2", "save 3 0 4.3.0*1100", "save 3 0 5.3.0:f",
	"save 4 0 5.4.0*1024 6.4.0:g", "save 4 4 7.4.0:h", "compact 5 4", "compact 5 4", "save 5 5 7.5.0:i 6.5.0:j", "compact 9 9", "save 5 5 10.9.0:k",
}

// after is what is seen of a log on a disk of its own, once calls were done.
func after(t *testing.T, calls ...string) string {
	t.Helper()
	return fresh(t, append([]string{"open"}, calls...)...).do("see")
}

// steps are what may be seen once a call was cut off behind others: what there was, or what comes of some of its first records.
func steps(t *testing.T, done []string, call string) []string {
	t.Helper()
	out := []string{after(t, done...)}
	words := strings.Fields(call)
	if words[0] == "compact" {
		return append(out, after(t, append(slices.Clone(done), call)...))
	}
	for n := 3; n <= len(words); n++ {
		out = append(out, after(t, append(slices.Clone(done), strings.Join(words[:n], " "))...))
	}
	return out
}

// P19.6: what was done without an error is there, however the power went behind it.
func TestWhatIsDoneLasts(t *testing.T) {
	for n := range len(life) + 1 {
		want := after(t, life[:n]...)
		for keep := range 3 {
			w := fresh(t, append([]string{"open"}, life[:n]...)...)
			w.runs(t, fmt.Sprint("start ", keep, keep, keep), "open", "see -> "+want, "arm 0 0", "put a -> ErrDown", "start", "open", "see -> "+want)
		}
	}
}

// cut is a life that is cut off in the act behind acts others: which call tells it.
func cut(t *testing.T, acts, part int) (*world, int) {
	t.Helper()
	w := fresh(t, "open", fmt.Sprint("arm ", acts, " ", part))
	for i, call := range life {
		if got := w.do(call); got == "ErrDown" {
			return w, i
		} else if got != "" {
			t.Fatal(call, got)
		}
	}
	return nil, 0
}

// P19.6: a life that is cut off in any of its acts, at any byte, goes on from what there was, or what comes of some of the first records;
// also if the power goes in the Open behind it, and again.
func TestWhatIsCutOff(t *testing.T) {
	partly := 0
	for acts := 0; ; acts++ {
		for _, part := range parts() {
			w, at := cut(t, acts, part)
			if w == nil {
				if acts < 20 || partly == 0 {
					t.Error(acts, partly)
				}
				return
			}
			may := steps(t, life[:at], life[at])
			for keep := range 4 {
				w, _ := cut(t, acts, part)
				w.d.Start([]int{keep * 17, keep * 17, keep * 17})
				for again := range 3 {
					w.d.Arm(again, part)
					if w.do("open") == "ErrDown" {
						w.d.Start([]int{keep * 31, keep})
					}
				}
				w.d.Arm(-1, 0)
				w.runs(t, "open")
				got := w.do("see")
				if !slices.Contains(may, got) {
					t.Fatalf("%s, act %d, part %d, keep %d: %s\nis none of %s", life[at], acts, part, keep, got, strings.Join(may, "\n"))
				}
				if got != may[0] && got != may[len(may)-1] {
					partly++
				}
				w.runs(t, "start", "open", "see -> "+got)
			}
		}
	}
}

// parts are some of an act: of a short Append all, of a long one some.
func parts() []int {
	var out []int
	for i := range 80 {
		out = append(out, i)
	}
	return append(out, 500, 1041, 1042, 1060, 1100, -1, -2, -20)
}

// P19.7: Open of what Open left is that; it does nothing but its Sync.
func TestOpenOfWhatOpenLeft(t *testing.T) {
	for _, x := range []string{
		"", "put log1 b0.0 ~00", "put log1 b0.0; put log2 b1.1 s1.1; append log3 e2.1.0:a ~000102", "put log4 b0.0 s1.1; append log5", "put log4 b0.0 s1.1; append log5 ~00",
	} {
		calls := []string{}
		if x != "" {
			calls = strings.Split(x, ";")
		}
		w := fresh(t, append(calls, "open")...)
		want, files := w.do("see"), filesIn(w.d)
		acts(t, append(calls, "open"), "open", files, files)
		w.runs(t, "open", "see -> "+want, "files -> "+files, "arm 1 1", "open", "down -> false", "open -> ErrDown", "start", "open", "see -> "+want, "files -> "+files)
	}
	for n := range len(life) + 1 {
		calls := append([]string{"open"}, life[:n]...)
		w := fresh(t, append(calls, "arm 1 1", "open", "down -> false")...)
		acts(t, calls, "open", filesIn(w.d), filesIn(w.d))
	}
}
