package wal

import (
	"cmp"
	"encoding/binary"
	"fmt"
	"regexp"
	"slices"
	"strings"
	"testing"

	"muntin/api"
	"muntin/disk"
)

// judge is the chapter told another way: all records that were done stand as words in a list, and what the log has is told by going through
// all of them anew. It works on a disk of its own.
type judge struct {
	d      *disk.Disk
	words  []string
	number int
	broken bool
}

// told is what comes of words: the text that a log is seen by, its entries' words, and whether all can be done.
func (j *judge) told(words []string) (string, []string, bool) {
	state, index, of, last := "0 0", 0, 0, 0
	at := map[int]string{}
	for _, w := range words {
		switch w[0] {
		case 's':
			state = strings.ReplaceAll(w[1:], ".", " ")
		case 'b':
			fmt.Sscanf(w, "b%d.%d", &index, &of)
			last, at = index, map[int]string{}
		case 'e':
			e := entryOf(w[1:])
			if e.Index <= index || e.Index > index && e.Index-1 > last {
				return "", nil, false
			}
			last, at[e.Index] = e.Index, w
		}
	}
	var entries []string
	out := fmt.Sprintf("%s, %d %d,", state, index, of)
	for i := index; i < last; i++ {
		entries = append(entries, at[i+1])
		out += " " + at[i+1][1:]
	}
	return out, entries, true
}

// files are the names of the log's files, by rising numbers.
func (j *judge) files() []string {
	var out []string
	for _, f := range j.d.Files() {
		if regexp.MustCompile(`^log[1-9][0-9]{0,8}$`).MatchString(f.Name) {
			out = append(out, f.Name)
		}
	}
	slices.SortFunc(out, func(a, b string) int { return cmp.Or(cmp.Compare(len(a), len(b)), strings.Compare(a, b)) })
	return out
}

// acts does acts, up to the first that tells an error.
func (j *judge) acts(l ...func() error) string {
	for _, f := range l {
		if f() != nil {
			j.broken = true
			return "ErrDown"
		}
	}
	return ""
}

// recordWord says that a word of wordsOf is a record's.
var recordWord = regexp.MustCompile(`^([sb][0-9]+\.[0-9]+|e[0-9]+\.[0-9]+\.[0-9]+[:*=].*)$`)

// open is what Open tells.
func (j *judge) open() string {
	if j.d.Down() {
		return "ErrDown"
	}
	j.broken = false
	names := j.files()
	if len(names) == 0 {
		j.words, j.number = []string{"b0.0", "s0.0"}, 1
		return j.acts(func() error { return j.d.Put("log1", bytesOf(j.words...)) })
	}
	var all [][]string
	var torn, size, first, number = false, 0, -1, 0
	for i, name := range names {
		b, _ := j.d.Read(name)
		n := 0
		fmt.Sscanf(name, "log%d", &n)
		if torn || n > 100000000 || i > 0 && n != number+1 {
			return "ErrLog"
		}
		words := strings.Fields(wordsOf(b, -1))
		torn = len(words) > 0 && words[len(words)-1][0] == '~'
		size = len(b)
		if torn {
			size -= len(words[len(words)-1]) / 2
			words = words[:len(words)-1]
		}
		if slices.ContainsFunc(words, func(w string) bool { return !recordWord.MatchString(w) }) {
			return "ErrLog"
		}
		if len(words) > 0 && words[0][0] == 'b' {
			first = i
		}
		all, number = append(all, words), n
	}
	if first < 0 {
		return "ErrLog"
	}
	words := slices.Concat(all[first:]...)
	_, _, fine := j.told(words)
	if !fine || slices.ContainsFunc(words[1:], func(w string) bool { return w[0] == 'b' }) {
		return "ErrLog"
	}
	var acts []func() error
	for _, name := range names[:first] {
		acts = append(acts, func() error { return j.d.Remove(name) })
	}
	last := names[len(names)-1]
	if torn {
		acts = append(acts, func() error { return j.d.Cut(last, size) })
	}
	j.words, j.number = words, number
	return j.acts(append(acts, func() error { return j.d.Sync(last) })...)
}

// save is what Save tells.
func (j *judge) save(term, vote string, entries []string) string {
	if number(term) < 0 || number(vote) < 0 {
		return "ErrArg"
	}
	words, long := slices.Clone(j.words), false
	for _, s := range entries {
		e := entryOf(s)
		if words = append(words, "e"+s); e.Index < 0 || e.Term < 0 || e.Kind < 0 {
			return "ErrArg"
		}
		long = long || len(e.Data) > 65536
	}
	if _, _, fine := j.told(words); !fine {
		return "ErrArg"
	}
	if long {
		return "ErrLong"
	}
	if j.broken {
		return "ErrDown"
	}
	var news []string
	if was, _, _ := j.told(j.words); !strings.HasPrefix(was, term+" "+vote+",") {
		news = append(news, "s"+term+"."+vote)
	}
	for _, s := range entries {
		news = append(news, "e"+s)
	}
	if len(news) == 0 {
		return ""
	}
	number := j.number
	for _, f := range j.d.Files() {
		if f.Name == fmt.Sprint("log", number) && len(f.Bytes) >= 1024 {
			number++
		}
	}
	name := fmt.Sprint("log", number)
	out := j.acts(func() error { return j.d.Append(name, bytesOf(news...)) }, func() error { return j.d.Sync(name) })
	if out == "" {
		j.words, j.number = append(j.words, news...), number
	}
	return out
}

// compact is what Compact tells.
func (j *judge) compact(index, term int) string {
	if index < 0 || term < 0 {
		return "ErrArg"
	}
	if j.broken {
		return "ErrDown"
	}
	was, entries, _ := j.told(j.words)
	state, behind, _ := strings.Cut(was, ",")
	stay := strings.HasPrefix(behind, fmt.Sprintf(" %d %d,", index, term))
	var kept []string
	for _, w := range entries {
		e := entryOf(w[1:])
		stay = stay || e.Index == index && e.Term == term
		if e.Index > index {
			kept = append(kept, w)
		}
	}
	if !stay {
		kept = nil
	}
	words := append([]string{fmt.Sprintf("b%d.%d", index, term), "s" + strings.Replace(state, " ", ".", 1)}, kept...)
	name := fmt.Sprint("log", j.number+1)
	acts := []func() error{func() error { return j.d.Put(name, bytesOf(words...)) }}
	for _, other := range j.files() {
		acts = append(acts, func() error { return j.d.Remove(other) })
	}
	out := j.acts(acts...)
	if out == "" {
		j.words, j.number = words, j.number+1
	}
	return out
}

// do is what a call tells.
func (j *judge) do(call string) string {
	words := strings.Fields(call)
	switch words[0] {
	case "open":
		return j.open()
	case "save":
		return j.save(words[1], words[2], words[3:])
	case "compact":
		return j.compact(number(words[1]), number(words[2]))
	case "see":
		out, _, _ := j.told(j.words)
		return out
	}
	return (&world{d: j.d}).do(call)
}

// dice are numbers that look like chance, the same ones in every run.
type dice uint64

// roll is a number below n.
func (d *dice) roll(n int) int {
	*d = *d*6364136223846793005 + 1442695040888963407
	return int(*d>>33) % n
}

// entry is one near the last index, most of them as they may be.
func (d *dice) entry(near int) string {
	if d.roll(60) == 0 {
		return []string{"-1.0.0:", "1.-1.0:", "1.1.-1:", "MaxInt.1.1:", "MinInt.1.1:"}[d.roll(5)]
	}
	if d.roll(200) == 0 {
		return fmt.Sprint(near, ".0.0*65537")
	}
	data := ":" + "abcdefgh"[:d.roll(9)]
	if d.roll(8) == 0 {
		data = fmt.Sprint("*", 9+d.roll(700))
	}
	return fmt.Sprintf("%d.%d.%d%s", near, d.roll(4), d.roll(2), data)
}

// call is one of a log, with that index about the last one.
func (d *dice) call(last int) string {
	switch d.roll(12) {
	case 0:
		return "open"
	case 1, 2:
		return fmt.Sprint("compact ", max(last-d.roll(6)+1, -1), " ", d.roll(5)-d.roll(2))
	case 3:
		return fmt.Sprint("arm ", d.roll(5), " ", d.roll(2000)-100)
	}
	out := fmt.Sprint("save ", d.roll(3), " ", d.roll(3))
	if d.roll(50) == 0 {
		out = fmt.Sprint("save ", d.roll(2)-1, " ", d.roll(2)-1)
	}
	for range d.roll(4) {
		out += " " + d.entry(last+1)
		if last++; d.roll(4) == 0 {
			last -= d.roll(4)
		}
	}
	return out
}

// both does a call in both, and holds what they tell and their files against each other.
func both(t *testing.T, w *world, j *judge, call string) string {
	t.Helper()
	got, want := w.do(call), j.do(call)
	if got != want {
		t.Fatalf("%s: %s, but the judge tells %s", call, got, want)
	}
	if got, want := filesIn(w.d), filesIn(j.d); got != want {
		t.Fatalf("%s\n%s, but the judge's files are\n%s", call, got, want)
	}
	return got
}

// P19.1 to P19.4, P19.6: drawn lives, with powers that go, are what the judge tells, act by act.
func TestDrawnLives(t *testing.T) {
	told := map[string]int{}
	for seed := range 400 {
		d := dice(seed)
		w, j := &world{d: disk.New()}, &judge{d: disk.New()}
		both(t, w, j, "open")
		for range 60 {
			_, entries, _ := j.told(j.words)
			base, _ := w.l.Base()
			out := both(t, w, j, d.call(base+len(entries)))
			both(t, w, j, "see")
			told[out]++
			if w.d.Down() && d.roll(3) > 0 {
				both(t, w, j, fmt.Sprint("start ", d.roll(60), " ", d.roll(60)))
				for both(t, w, j, "open") != "" {
					both(t, w, j, "start")
				}
				both(t, w, j, "see")
			}
		}
	}
	for _, s := range []string{"", "ErrArg", "ErrLong", "ErrDown"} {
		if told[s] < 50 {
			t.Error(s, told)
		}
	}
}

// word is a record's, or something like it.
func (d *dice) word(index int) string {
	switch d.roll(24) {
	case 0:
		return fmt.Sprint("b", d.roll(3), ".", d.roll(3))
	case 1:
		return []string{"#", "#00", "#0104", "#01010100", "#010101000101", "#010201010000", "#02000101", "#0101020001"}[d.roll(8)]
	case 2:
		return fmt.Sprintf("e%d.1.0:", index+d.roll(4)-2)
	case 3, 4, 5, 6, 7:
		return fmt.Sprint("s", d.roll(3), ".", d.roll(3))
	}
	return fmt.Sprintf("e%d.%d.0:%d", index, d.roll(3), index)
}

// put is the call that puts one file of a log there.
func (d *dice) put(number, index int) (string, int) {
	out := fmt.Sprint("put log", number)
	if d.roll(2) == 0 || number == 9 {
		index = d.roll(3)
		out += fmt.Sprint(" b", index, ".", d.roll(3))
	}
	for range d.roll(4) {
		w := d.word(index + 1)
		if out += " " + w; w[0] == 'e' {
			index++
		}
	}
	if d.roll(12) == 0 {
		out += " ~0000000100"
	}
	return out, index
}

// P19.1, P19.7: drawn files are a log, or none, as the judge tells it.
func TestDrawnFiles(t *testing.T) {
	told := map[string]int{}
	for seed := range 12000 {
		d := dice(seed)
		w, j := &world{d: disk.New()}, &judge{d: disk.New()}
		index, number := 0, 9
		for range 1 + d.roll(4) {
			var call string
			call, index = d.put(number, index)
			both(t, w, j, call)
			number++
			if d.roll(30) == 0 {
				number++
			}
		}
		if d.roll(4) == 0 {
			both(t, w, j, fmt.Sprint("arm ", d.roll(5), " ", d.roll(2)))
		}
		out := both(t, w, j, "open")
		if told[out]++; out == "" {
			both(t, w, j, "see")
			both(t, w, j, "save 1 1")
			both(t, w, j, "open")
			both(t, w, j, "see")
		}
	}
	for _, s := range []string{"", "ErrLog", "ErrDown"} {
		if told[s] < 100 {
			t.Error(s, told)
		}
	}
}

// FuzzOpen: whatever bytes two files have, Open tells what the judge tells; of a log, Open tells that again (P19.1, P19.7, W1).
func FuzzOpen(f *testing.F) {
	f.Add(bytesOf("b0.0", "s1.1", "e1.1.0:a"), bytesOf("e2.1.0:b", "~0000"), false)
	f.Add(bytesOf("b0.0", "s1.1", "e1.1.0:a"), bytesOf("b2.1", "e3.1.0:"), false)
	f.Add([]byte{3, 0, 0}, []byte{2, 1, 1, 1, 1, 0, 0}, true)
	f.Fuzz(func(t *testing.T, one, two []byte, frame bool) {
		if frame && len(one) < 1<<20 && len(two) < 1<<20 {
			one, two = framed(one), slices.Concat(bytesOf("b0.0", "e1.1.0:a"), framed(two))
		}
		if len(one) > 4 && binary.BigEndian.Uint32(one) > api.MaxFrame || len(two) > 1<<16 || len(one) > 1<<16 {
			return
		}
		w, j := &world{d: disk.New()}, &judge{d: disk.New()}
		for _, d := range []*disk.Disk{w.d, j.d} {
			d.Put("log1", one)
			d.Put("log2", two)
		}
		if both(t, w, j, "open") != "" {
			return
		}
		both(t, w, j, "see")
		files := filesIn(w.d)
		w.runs(t, "open", "files -> "+files)
		both(t, w, j, "save 1 2")
		both(t, w, j, "compact 1 1")
		both(t, w, j, "see")
	})
}
