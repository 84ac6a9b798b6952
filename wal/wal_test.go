package wal

import (
	"bytes"
	"encoding/binary"
	"encoding/hex"
	"fmt"
	"hash/crc32"
	"slices"
	"strconv"
	"strings"
	"testing"

	"muntin/api"
	"muntin/disk"
)

// world is a disk, and the log that was opened of it last.
type world struct {
	d *disk.Disk
	l *Log
}

// letters is an error in a few letters.
func letters(err error) string {
	switch err {
	case nil:
		return ""
	case api.ErrArg:
		return "ErrArg"
	case api.ErrLong:
		return "ErrLong"
	case api.ErrDown:
		return "ErrDown"
	case api.ErrLog:
		return "ErrLog"
	}
	return "not an error of this layer: " + err.Error()
}

// number is the number of a text; MinInt and MaxInt by their names, and those a little beside them.
func number(s string) int {
	switch s {
	case "MinInt":
		return api.MinInt
	case "MaxInt":
		return api.MaxInt
	case "MaxInt-1":
		return api.MaxInt - 1
	}
	n, err := strconv.Atoi(s)
	if err != nil {
		panic(err)
	}
	return n
}

// entryOf is the entry of a text: `1.2.0:data`, or `1.2.0*60` for 60 bytes, or `1.2.0=0a20` for these.
func entryOf(s string) api.Entry {
	at := strings.IndexAny(s, ":*=")
	data := s[at+1:]
	switch s[at] {
	case '*':
		data = strings.Repeat("x", number(data))
	case '=':
		b, err := hex.DecodeString(data)
		if err != nil {
			panic(err)
		}
		data = string(b)
	}
	n := strings.Split(s[:at], ".")
	return api.Entry{Index: number(n[0]), Term: number(n[1]), Kind: number(n[2]), Data: []byte(data)}
}

// entriesOf are the entries of texts.
func entriesOf(l []string) []api.Entry {
	var out []api.Entry
	for _, s := range l {
		out = append(out, entryOf(s))
	}
	return out
}

// textOf is an entry's text.
func textOf(e api.Entry) string {
	head := fmt.Sprintf("%d.%d.%d", e.Index, e.Term, e.Kind)
	if len(e.Data) > 8 && string(e.Data) == strings.Repeat("x", len(e.Data)) {
		return fmt.Sprintf("%s*%d", head, len(e.Data))
	}
	if bytes.ContainsFunc(e.Data, func(r rune) bool { return r <= ' ' || r > '~' }) {
		return fmt.Sprintf("%s=%x", head, e.Data)
	}
	return head + ":" + string(e.Data)
}

// num is a number in bytes, by chapter 1's words.
func num(n int) []byte {
	var digits []byte
	for ; n > 0; n /= 256 {
		digits = append([]byte{byte(n % 256)}, digits...)
	}
	return append([]byte{byte(len(digits))}, digits...)
}

// framed is the frame of bytes.
func framed(p []byte) []byte {
	b := append(binary.BigEndian.AppendUint32(nil, uint32(len(p))), p...)
	return binary.BigEndian.AppendUint32(b, crc32.Checksum(b, crc32.MakeTable(crc32.Castagnoli)))
}

// recorded is the frame of a record, told by a word: `s1.2` a state, `b1.2` a base, `e1.2.0:data` an entry; `#0102` the frame of these
// bytes; `~0102` these bytes without a frame.
func recorded(word string) []byte {
	var p []byte
	switch kind, rest := word[0], word[1:]; kind {
	case 's', 'b':
		one, two, _ := strings.Cut(rest, ".")
		p = slices.Concat(num(strings.IndexByte(".s.b", kind)), num(number(one)), num(number(two)))
	case 'e':
		e := entryOf(rest)
		p = slices.Concat([]byte{1, 2}, num(e.Index), num(e.Term), num(e.Kind), num(len(e.Data)), e.Data)
	default:
		if _, err := fmt.Sscanf(rest+" ", "%x", &p); err != nil && rest != "" {
			panic(err)
		}
		if kind == '~' {
			return p
		}
	}
	return framed(p)
}

// bytesOf are the frames of records, one behind another.
func bytesOf(words ...string) []byte {
	var out []byte
	for _, w := range words {
		out = append(out, recorded(w)...)
	}
	return out
}

// wordOf is the word of the record that a frame holds.
func wordOf(p []byte) string {
	var n []int
	rest := p
	for len(rest) > 0 && int(rest[0]) < len(rest) && len(n) < 5 {
		v := 0
		for _, b := range rest[1 : int(rest[0])+1] {
			v = v*256 + int(b)
		}
		n, rest = append(n, v), rest[int(rest[0])+1:]
	}
	word := fmt.Sprintf("#%x", p)
	switch {
	case len(n) == 3 && n[0] == 1:
		word = fmt.Sprintf("s%d.%d", n[1], n[2])
	case len(n) == 3 && n[0] == 3:
		word = fmt.Sprintf("b%d.%d", n[1], n[2])
	case len(n) == 5 && n[0] == 2:
		word = "e" + textOf(api.Entry{Index: n[1], Term: n[2], Kind: n[3], Data: rest})
	}
	if !slices.Equal(recorded(word), framed(p)) {
		return fmt.Sprintf("#%x", p)
	}
	return word
}

// wordsOf are those of a file: its records, `|` where what is sure ends, what stands behind the records.
func wordsOf(b []byte, sure int) string {
	out, at := "", 0
	for {
		if at == sure {
			out += "|"
		}
		if len(b)-at < 8 {
			break
		}
		end := at + 8 + int(binary.BigEndian.Uint32(b[at:]))
		if end > len(b) || !slices.Equal(framed(b[at+4:end-4]), b[at:end]) {
			break
		}
		out, at = out+" "+wordOf(b[at+4:end-4]), end
	}
	if at < len(b) {
		out += fmt.Sprintf(" ~%x", b[at:])
	}
	if sure > at {
		out += fmt.Sprintf("|%d", sure-at)
	}
	return out
}

// filesIn are a disk's files, in words.
func filesIn(d *disk.Disk) string {
	var out []string
	for _, f := range d.Files() {
		out = append(out, f.Name+wordsOf(f.Bytes, f.Sure))
	}
	return strings.Join(out, "; ")
}

// seen is all that a log tells of itself.
func seen(l *Log) string {
	term, vote := l.State()
	index, of := l.Base()
	out := fmt.Sprintf("%d %d, %d %d,", term, vote, index, of)
	for _, e := range l.Entries() {
		out += " " + textOf(e)
	}
	return out
}

// do does a call, told by words, and tells what is answered.
func (w *world) do(call string) string {
	words := append(strings.Fields(call), "", "", "")
	rest := words[1 : len(words)-3]
	switch words[0] {
	case "open":
		l, err := Open(w.d)
		if (l == nil) != (err != nil) {
			return "a log beside an error, or neither"
		}
		if err == nil {
			w.l = l
		}
		return letters(err)
	case "save":
		return letters(w.l.Save(number(rest[0]), number(rest[1]), entriesOf(rest[2:])))
	case "compact":
		return letters(w.l.Compact(number(rest[0]), number(rest[1])))
	case "see":
		return seen(w.l)
	case "files":
		return filesIn(w.d)
	}
	return w.meddle(words[0], rest)
}

// meddle does a call of the disk.
func (w *world) meddle(call string, rest []string) string {
	switch call {
	case "put":
		return letters(w.d.Put(rest[0], bytesOf(rest[1:]...)))
	case "append":
		return letters(w.d.Append(rest[0], bytesOf(rest[1:]...)))
	case "remove":
		return letters(w.d.Remove(rest[0]))
	case "arm":
		w.d.Arm(number(rest[0]), number(rest[1]))
	case "start":
		var keep []int
		for _, s := range rest {
			keep = append(keep, number(s))
		}
		w.d.Start(keep)
	case "down":
		return fmt.Sprint(w.d.Down())
	default:
		panic("no such call: " + call)
	}
	return ""
}

// runs does calls, each with what it answers behind an arrow (nothing, if there is none).
func (w *world) runs(t *testing.T, calls ...string) {
	t.Helper()
	for _, c := range calls {
		call, want, _ := strings.Cut(c, "->")
		if got := w.do(call); strings.TrimSpace(got) != strings.TrimSpace(want) {
			t.Errorf("%s\n got %s\nwant %s", call, got, want)
		}
	}
}

// fresh is a world in which calls were done.
func fresh(t *testing.T, calls ...string) *world {
	t.Helper()
	w := &world{d: disk.New()}
	w.runs(t, calls...)
	return w
}

// acted is what the files are, in a world of some calls, ahead of a call and behind each of its acts. (An act that is cut off with the
// part 0 isn't done at all.)
func acted(t *testing.T, calls []string, call string) []string {
	t.Helper()
	var out []string
	for k := 0; ; k++ {
		w := fresh(t, calls...)
		w.d.Arm(k, 0)
		err := w.do(call)
		out = append(out, filesIn(w.d))
		if !w.d.Down() {
			if err != "" {
				t.Errorf("%s: %s", call, err)
			}
			return out
		}
		if err != "ErrDown" {
			t.Errorf("%s, cut off at act %d: %q", call, k, err)
		}
	}
}

// acts checks what a call does on the disk, act by act.
func acts(t *testing.T, calls []string, call string, want ...string) {
	t.Helper()
	if got := acted(t, calls, call); !slices.Equal(got, want) {
		t.Errorf("%s\n got %s\nwant %s", call, strings.Join(got, "\n     "), strings.Join(want, "\n     "))
	}
}

// The chapter's examples (P19.1 to P19.4).
func TestExamples(t *testing.T) {
	fresh(t,
		"open", "see -> 0 0, 0 0,",
		"save 2 1 1.2.0:a 2.2.0:b", "save 2 1 2.3.0:c", "see -> 2 1, 0 0, 1.2.0:a 2.3.0:c",
		"save 2 1 4.3.0: -> ErrArg",
		"compact 1 2", "see -> 2 1, 1 2, 2.3.0:c", "files -> log2 b1.2 s2.1 e2.3.0:c|",
		"compact 9 4", "see -> 2 1, 9 4,", "files -> log3 b9.4 s2.1|",
	)
}

// P19.1 to P19.3: the bytes of records are those of the chapter.
func TestBytesOfRecords(t *testing.T) {
	w := fresh(t, "open", "save 300 1 1.2.7:ab")
	b, err := w.d.Read("log1")
	want := slices.Concat(framed([]byte{1, 3, 0, 0}), framed([]byte{1, 1, 0, 0}), framed([]byte{1, 1, 2, 1, 44, 1, 1}), framed([]byte{1, 2, 1, 1, 1, 2, 1, 7, 1, 2, 'a', 'b'}))
	if err != nil || !slices.Equal(b, want) {
		t.Errorf("%x %v, want %x", b, err, want)
	}
}

// P19.1: a disk without a log gets one, by one act; whatever other files there are.
func TestOpenBegins(t *testing.T) {
	acts(t, nil, "open", "", "log1 b0.0 s0.0|")
	other := []string{"put a ~00", "put log s1.1", "put log0 ~01", "put log01 b1.1", "append log1234567890 ~02", "put log1_ b1.1", "put log_1 b1.1", "put Log1 b1.1", "put logx b1.1", "put xlog1 b1.1", "put _1 b1.1", "put log1000000000 b1.1"}
	w := fresh(t, other...)
	before := filesIn(w.d)
	w.runs(t, "open", "see -> 0 0, 0 0,", "save 1 2 1.1.0:a", "compact 1 1", "see -> 1 2, 1 1,", "remove log2", "files -> "+before)
}

// P19.1: what is told first is that the disk is down, whatever is on it.
func TestOpenOfADiskThatIsDown(t *testing.T) {
	for _, setup := range [][]string{nil, {"put log1 ~00"}, {"put log1 b0.0"}, {"put log7 b0.0", "put log9 b0.0"}, {"put x ~"}} {
		fresh(t, append(setup, "arm 0 0", "put a -> ErrDown", "open -> ErrDown", "open -> ErrDown")...)
	}
}

// P19.1: files that are no log.
func TestOpenRefuses(t *testing.T) {
	for _, x := range []string{
		"put log1", "put log1 ~09", "put log1 s0.0", "put log1 e1.1.0:", // none begins with a base
		"put log1 s0.0 b0.0", "put log1 s0.0; put log2 s0.0",
		"put log1 b0.0; put log3 b0.0", "put log1 b0.0; put log2 s1.1; put log4 s1.1", "put log9 b0.0; put log11 s1.0", // a number is left out
		"put log100000001 b0.0", "put log999999999 b0.0", "put log100000000 b0.0; put log100000001 s0.0",
		"put log1 b0.0 ~00; put log2 s0.0", "put log1 b0.0 ~00; put log2 b0.0", "put log1 b0.0; put log2 ~00; put log3 s0.0", // behind whole frames
		"put log1 ~00; put log2 b0.0", "put log1 b0.0; put log2 s0.0 ~00000001; put log3 b0.0",
		"put log1 b0.0 #", "put log1 b0.0 #0104", "put log1 b0.0 #0104000000", "put log1 b0.0 #00", "put log1 b0.0 #000000", // no records
		"put log1 b0.0 #010100", "put log1 b0.0 #01010000ff", "put log1 b0.0 #0101000000",
		"put log1 b0.0 #010200010000", "put log1 b0.0 #0102010100000101", "put log1 b0.0 #01020101000000ff", "put log1 b0.0 #010201010000020001",
		"put log1 b0.0 #01030000; put log2 #0103000000", "put log1 b0.0 #01010100", "put log1 #01030100; put log2 b0.0", "put log1 b0.0 #09",
		"put log1 #0104; put log2 b0.0", "put log1 b0.0 #ff; put log2 b0.0; put log3 s0.0", "put log1 b0.0 #010203; put log2 b0.0",
		"put log1 b0.0 e0.0.0:", "put log1 b0.0 e2.0.0:", "put log1 b5.1 e5.1.0:", "put log1 b5.1 e4.1.0:", "put log1 b5.1 e7.1.0:", // can't be done
		"put log1 b0.0 e1.1.0: e3.1.0:", "put log1 b0.0 e1.1.0: e2.1.0: e1.1.0: e3.1.0:", "put log1 b0.0 e1.1.0:; put log2 e3.1.0:",
		"put log1 b0.0 e1.1.0:; put log2 s0.0; put log3 e0.1.0:", "put log1 b0.0 e1.1.0:; put log2 b0.0 e2.1.0:",
		"put log1 bMaxInt.0 eMaxInt.1.0:", "put log1 b0.0 eMaxInt.1.0:", "put log1 b0.0 e1.1.0: e0.1.0:",
		"put log1 b0.0 b0.0", "put log1 b0.0 s1.1 b0.0", "put log1 b0.0; put log2 s1.1 b0.0", "put log1 b0.0; put log2 b0.0 b0.0", // a base elsewhere
		"put log1 b0.0; put log2 s1.1 b0.0; put log3 s1.2",
	} {
		w := fresh(t, strings.Split(x, ";")...)
		before := filesIn(w.d)
		w.d.Arm(0, 1)
		if got := w.do("open"); got != "ErrLog" || filesIn(w.d) != before || w.d.Down() {
			t.Errorf("%s: %q, %s", x, got, filesIn(w.d))
		}
	}
}

// P19.1: files that are a log, and what it has.
func TestOpenReads(t *testing.T) {
	for _, x := range []struct{ files, want string }{
		{"put log1 b0.0", "0 0, 0 0,"},
		{"put log1 b3.2 s4.1 e4.3.0:a e5.4.1:b", "4 1, 3 2, 4.3.0:a 5.4.1:b"},
		{"put log1 b0.0 s1.1 s2.5 s2.0", "2 0, 0 0,"},
		{"put log1 b0.0 sMaxInt.MaxInt", "9223372036854775807 9223372036854775807, 0 0,"},
		{"put log1 bMaxInt-1.MaxInt eMaxInt.MaxInt.MaxInt:z", "0 0, 9223372036854775806 9223372036854775807, 9223372036854775807.9223372036854775807.9223372036854775807:z"},
		{"put log1 bMaxInt.0", "0 0, 9223372036854775807 0,"},
		{"put log1 b0.0 e1.1.0:a e2.1.0:b e3.1.0:c e2.2.0:d", "0 0, 0 0, 1.1.0:a 2.2.0:d"},
		{"put log1 b0.0 e1.1.0:a e1.2.0:b e1.0.0:c", "0 0, 0 0, 1.0.0:c"},
		{"put log1 b0.0 e1.9.0:a e2.1.0:b", "0 0, 0 0, 1.9.0:a 2.1.0:b"},
		{"put log1 b0.0 e1.1.0*65536", "0 0, 0 0, 1.1.0*65536"},
		{"put log7 b0.0 s1.2; put log8 e1.1.0:a; put log9 s2.2 e2.1.0:b", "2 2, 0 0, 1.1.0:a 2.1.0:b"},
		{"put log9 b0.0 e1.1.0:a; put log10 e2.1.0:b; put log11 e3.1.0:c; put log12", "0 0, 0 0, 1.1.0:a 2.1.0:b 3.1.0:c"},
		{"put log99 b0.0 s7.7 e1.1.0:a; put log100 b5.5; put log101 e6.5.0:b", "0 0, 5 5, 6.5.0:b"},
		{"put log1 b0.0; put log2 b1.1; put log3 b2.2 s1.1", "1 1, 2 2,"},
		{"put log1 e7.7.0: b0.0 b1.1 e9.9.0:; put log2 b1.2", "0 0, 1 2,"}, // ahead of the log's beginning there need only be records
		{"put log1; put log2 b1.2", "0 0, 1 2,"},
		{"put log1 b0.0; put log2; put log3 e1.1.0:a", "0 0, 0 0, 1.1.0:a"},
		{"put log100000000 b1.1", "0 0, 1 1,"},
		{"put log99999999 b1.1; put log100000000 s1.1", "1 1, 1 1,"},
		{"put log1 b1.1 ~00", "0 0, 1 1,"}, {"put log1 b1.1 ~00000002ffffffffffff s2.2", "0 0, 1 1,"}, {"put log1 b1.1 ~00100001", "0 0, 1 1,"},
		{"put log1 b1.1 e2.1.0:a; put log2 ~00", "0 0, 1 1, 2.1.0:a"}, {"put log1 b1.1; put log2 s1.1 ~0000000401", "1 1, 1 1,"},
		{"put log1 b1.1; put log2 b2.2 ~0000000401", "0 0, 2 2,"},
		{"put log3 b1.1; put log1x ~01; put log02 ~00; put log9999999999 ~01", "0 0, 1 1,"},
	} {
		fresh(t, append(strings.Split(x.files, ";"), "open", "see -> "+x.want)...)
	}
}

// P19.1: on the disk there is left what the log needs: files ahead of it are removed by rising numbers, what is torn is cut off, and the
// last file is made sure.
func TestOpenActs(t *testing.T) {
	acts(t, []string{"put log1 b0.0", "append log1 s1.1"}, "open", "log1 b0.0| s1.1", "log1 b0.0 s1.1|")
	acts(t, []string{"put log1 b0.0", "append log1 s1.1 ~0000"}, "open", "log1 b0.0| s1.1 ~0000", "log1 b0.0| s1.1", "log1 b0.0 s1.1|")
	acts(t, []string{"put log1 b0.0 ~00"}, "open", "log1 b0.0 ~00|1", "log1 b0.0|", "log1 b0.0|")
	acts(t, []string{"put log8 b8.0", "put log9 b9.0", "put log10 b0.0", "put log11 b5.5", "append log12 ~00", "put log ~"}, "open",
		"log|; log10 b0.0|; log11 b5.5|; log12| ~00; log8 b8.0|; log9 b9.0|",
		"log|; log10 b0.0|; log11 b5.5|; log12| ~00; log9 b9.0|",
		"log|; log10 b0.0|; log11 b5.5|; log12| ~00",
		"log|; log11 b5.5|; log12| ~00",
		"log|; log11 b5.5|; log12|",
		"log|; log11 b5.5|; log12|",
	)
	acts(t, []string{"put log1 b0.0", "append log1 s1.1", "append log2 s2.2"}, "open", "log1 b0.0| s1.1; log2| s2.2", "log1 b0.0| s1.1; log2 s2.2|")
}

// P19.1: of a log that was opened the next Save goes behind what is whole.
func TestSaveBehindATornEnd(t *testing.T) {
	fresh(t, "put log1 b0.0 ~0000000401", "open", "save 1 1 1.1.0:a", "files -> log1 b0.0 s1.1 e1.1.0:a|", "open", "see -> 1 1, 0 0, 1.1.0:a")
	fresh(t, "put log1 b0.0", "append log2 ~00", "open", "save 1 1", "files -> log1 b0.0|; log2 s1.1|", "compact 0 0", "files -> log3 b0.0 s1.1|")
}
