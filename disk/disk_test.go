package disk

import (
	"fmt"
	"strconv"
	"strings"
	"testing"

	"muntin/api"
)

// shown is all that can be seen of a disk.
func shown(d *Disk) string {
	out := "on"
	if d.Down() {
		out = "off"
	}
	return out + listed(d.Files())
}

// listed is the text of files.
func listed(l []api.File) string {
	out := ""
	for _, f := range l {
		out += fmt.Sprintf(" %s:%q/%d", f.Name, f.Bytes, f.Sure)
	}
	return out
}

// told is an error in a few letters.
func told(err error) string {
	switch err {
	case nil:
		return ""
	case api.ErrArg:
		return "ErrArg"
	case api.ErrDown:
		return "ErrDown"
	case api.ErrFile:
		return "ErrFile"
	}
	return "not an error of this layer: " + err.Error()
}

// number is the number of a text; MinInt and MaxInt by their names.
func number(s string) int {
	switch s {
	case "MinInt":
		return api.MinInt
	case "MaxInt":
		return api.MaxInt
	}
	n, err := strconv.Atoi(s)
	if err != nil {
		panic(err)
	}
	return n
}

// do does a call, told by words, and tells what is answered.
func do(d *Disk, call string) string {
	words := append(strings.Fields(call), "", "")
	switch name, p := words[1], []byte(words[2]); words[0] {
	case "append":
		return told(d.Append(name, p))
	case "sync":
		return told(d.Sync(name))
	case "put":
		return told(d.Put(name, p))
	case "cut":
		return told(d.Cut(name, number(words[2])))
	case "remove":
		return told(d.Remove(name))
	case "read":
		b, err := d.Read(name)
		return string(b) + told(err)
	case "arm":
		d.Arm(number(words[1]), number(words[2]))
	case "start":
		var keep []int
		for _, word := range strings.Fields(call)[1:] {
			keep = append(keep, number(word))
		}
		d.Start(keep)
	case "see":
		return shown(d)
	default:
		panic(call)
	}
	return ""
}

// runs has a disk do calls, each `call` or `call -> what it answers`; what answers an error changes nothing, but where the power goes.
func runs(t *testing.T, d *Disk, calls ...string) {
	t.Helper()
	for i, call := range calls {
		call, want, _ := strings.Cut(call, " -> ")
		was, wasDown := shown(d), d.Down()
		if got := do(d, call); got != want {
			t.Errorf("%d, %s: %q, not %q", i, call, got, want)
		}
		if want != "" && wasDown == d.Down() && shown(d) != was {
			t.Errorf("%d, %s: changed %s to %s", i, call, was, shown(d))
		}
	}
}

// disk is one that did calls without an error.
func disk(t *testing.T, calls ...string) *Disk {
	t.Helper()
	d := New()
	runs(t, d, calls...)
	return d
}

// three is a disk with three files: one that is sure, one that is sure in part, one that isn't.
func three(t *testing.T) *Disk {
	t.Helper()
	return disk(t, "append b bb", "sync b", "append b bbb", "put a aaa", "append c ccc", "see -> on a:\"aaa\"/3 b:\"bbbbb\"/2 c:\"ccc\"/0")
}

// P18.1 to P18.4: the chapter's examples.
func TestExamples(t *testing.T) {
	d := New()
	runs(t, d, "append a xy", "sync a", "append a zw", "start 1", "read a -> xyz")
	runs(t, d, "arm 0 3", "append a 12345 -> ErrDown", `see -> off a:"xyz123"/3`, "start", "read a -> xyz")
	runs(t, d, "arm 1 0", "cut a 1", "put b q -> ErrDown", "start", `see -> on a:"x"/1`)
}

// P18.1, P18.4: a new disk is without files, on, and not armed.
func TestNew(t *testing.T) {
	d := New()
	runs(t, d, "see -> on", "read a -> ErrFile", "append a 1", "sync a", "put b 2", "cut a 0", "remove b", "append c", `see -> on a:""/0 c:""/0`)
	if l := New().Files(); len(l) != 0 {
		t.Error(l)
	}
	if d := New(); d.Down() {
		t.Error("off")
	}
}

// P18.1: what each of the five does.
func TestActs(t *testing.T) {
	for _, calls := range [][]string{
		{"append a x", `see -> on a:"x"/0`},
		{"append a", `see -> on a:""/0`},
		{"append a x", "append a", `see -> on a:"x"/0`},
		{"append a x", "append a yz", "append b w", "append a v", `see -> on a:"xyzv"/0 b:"w"/0`},
		{"put a x", "append a yz", `see -> on a:"xyz"/1`, "sync a", `see -> on a:"xyz"/3`, "sync a", `see -> on a:"xyz"/3`},
		{"append a", "sync a", `see -> on a:""/0`},
		{"append a x", "append b y", "sync b", `see -> on a:"x"/0 b:"y"/1`},
		{"put a xyz", `see -> on a:"xyz"/3`, "put a w", `see -> on a:"w"/1`, "put a", `see -> on a:""/0`},
		{"append a xyz", "put a vwxyz", `see -> on a:"vwxyz"/5`},
		{"put a xyz", "append a w", "put b q", `see -> on a:"xyzw"/3 b:"q"/1`},
		{"put a xyz", "append a vw", "cut a 5", `see -> on a:"xyzvw"/3`, "cut a 4", `see -> on a:"xyzv"/3`, "cut a 3", `see -> on a:"xyz"/3`, "cut a 2", `see -> on a:"xy"/2`, "cut a 0", `see -> on a:""/0`, "cut a 0", `see -> on a:""/0`},
		{"append a xyz", "cut a 2", "append a w", "cut a 3", `see -> on a:"xyw"/0`},
		{"put a xyz", "cut a 1", "append a vw", `see -> on a:"xvw"/1`},
		{"put a x", "remove a", "see -> on", "read a -> ErrFile", "append a y", `see -> on a:"y"/0`},
		{"put a x", "put b y", "remove a", `see -> on b:"y"/1`, "put a z", `see -> on a:"z"/1 b:"y"/1`},
	} {
		runs(t, New(), calls...)
	}
}

// wrongNames are texts that are no names.
func wrongNames() []string {
	return []string{"", "1", "1a", " a", "a ", "a b", "a\n", "a#", "#", "a/b", "a.b", "<-", "'a'", "[a]", "é", "a\x00", "a\xff", strings.Repeat("n", api.MaxName+1), strings.Repeat("n", api.MaxSource+1)}
}

// allFive does each of the five, and Read, with one name, and tells their errors.
func allFive(d *Disk, name string, n int) []string {
	_, err := d.Read(name)
	return []string{told(d.Append(name, []byte("p"))), told(d.Put(name, []byte("p"))), told(d.Sync(name)), told(d.Cut(name, n)), told(d.Remove(name)), told(err)}
}

// P18.1, P18.4: what is no name is refused by all, whether something is armed or not, and nothing changes.
func TestWrongNames(t *testing.T) {
	for _, name := range wrongNames() {
		for _, acts := range []int{-1, 0} {
			d := three(t)
			d.Arm(acts, 1)
			was := shown(d)
			for _, n := range []int{api.MinInt, -1, 0, api.MaxInt} {
				if got := allFive(d, name, n); strings.Join(got, " ") != "ErrArg ErrArg ErrArg ErrArg ErrArg ErrArg" || shown(d) != was {
					t.Errorf("%.40q %d: %v, %s", name, n, got, shown(d))
				}
			}
		}
	}
}

// P18.1: names that are just names, up to the longest.
func TestNames(t *testing.T) {
	for _, name := range []string{"a", "Z", "_", "_0", "a_1", "snap12", strings.Repeat("n", api.MaxName)} {
		d := New()
		for i, err := range []error{d.Append(name, []byte("x")), d.Sync(name), d.Append(name, []byte("yz")), d.Cut(name, 2)} {
			if err != nil {
				t.Error(name, i, err)
			}
		}
		if b, err := d.Read(name); string(b) != "xy" || err != nil {
			t.Error(name, string(b), err)
		}
		if want := "on " + name + ":\"xy\"/1"; shown(d) != want {
			t.Error(shown(d), "not", want)
		}
		if err := d.Remove(name); err != nil || shown(d) != "on" {
			t.Error(name, err, shown(d))
		}
	}
}

// P18.1, P18.4: of a file that is not there Sync, Cut, Remove and Read tell ErrFile, whatever Cut's number is.
func TestNoSuchFile(t *testing.T) {
	d := three(t)
	for _, n := range []string{"MinInt", "-1", "0", "1", "MaxInt"} {
		runs(t, d, "sync d -> ErrFile", "cut d "+n+" -> ErrFile", "remove d -> ErrFile", "read d -> ErrFile", "sync A -> ErrFile", "read aa -> ErrFile")
	}
	runs(t, New(), "sync a -> ErrFile", "cut a 0 -> ErrFile", "remove a -> ErrFile", "read a -> ErrFile")
	runs(t, d, "remove b", "sync b -> ErrFile", "cut b 0 -> ErrFile", "remove b -> ErrFile", "read b -> ErrFile", `see -> on a:"aaa"/3 c:"ccc"/0`)
}

// P18.1: Cut's number is from 0 to the file's length.
func TestCutNumbers(t *testing.T) {
	for n := range 6 {
		d := three(t)
		runs(t, d, "cut b -1 -> ErrArg", "cut b 6 -> ErrArg", "cut b MinInt -> ErrArg", "cut b MaxInt -> ErrArg", "cut b "+strconv.Itoa(n), "read b -> "+"bbbbb"[:n])
		runs(t, d, "cut b "+strconv.Itoa(n+1)+" -> ErrArg", "cut b "+strconv.Itoa(n))
	}
	runs(t, New(), "append a", "cut a 1 -> ErrArg", "cut a -1 -> ErrArg", "cut a 0")
}

// P18.1, P18.4: where the power is off all tell ErrDown, ahead of whatever else is wrong, and nothing changes.
func TestOff(t *testing.T) {
	d := three(t)
	runs(t, d, "arm 0 0", "put a q -> ErrDown")
	was := shown(d)
	for _, name := range append(wrongNames(), "a", "b", "c", "d", "nosuch") {
		for _, n := range []int{api.MinInt, -1, 0, 1, api.MaxInt} {
			if got := allFive(d, name, n); strings.Join(got, " ") != "ErrDown ErrDown ErrDown ErrDown ErrDown ErrDown" || shown(d) != was {
				t.Errorf("%.40q %d: %v, %s", name, n, got, shown(d))
			}
		}
	}
	runs(t, d, `see -> off a:"aaa"/3 b:"bbbbb"/2 c:"ccc"/0`)
}

// P18.4: Files are by rising names, byte by byte.
func TestFilesRise(t *testing.T) {
	d := disk(t, "put b 1", "put a 2", "put _ 3", "put Z 4", "put a1 5", "put a_ 6", "put aa 7", "put A 8", "put a10 9", "put a2 0")
	runs(t, d, `see -> on A:"8"/1 Z:"4"/1 _:"3"/1 a:"2"/1 a1:"5"/1 a10:"9"/1 a2:"0"/1 a_:"6"/1 aa:"7"/1 b:"1"/1`)
	for i := range 100 {
		runs(t, d, fmt.Sprint("append n", i*37%100, " x"))
	}
	l := d.Files()
	for i := range l[1:] {
		if l[i].Name >= l[i+1].Name {
			t.Error(l[i].Name, l[i+1].Name)
		}
	}
	if len(l) != 110 {
		t.Error(len(l))
	}
}

// P18.1, P18.4: files of all bytes, and great ones.
func TestGreatFiles(t *testing.T) {
	all := make([]byte, 0, 256)
	for i := range 256 {
		all = append(all, byte(i))
	}
	d, want := New(), ""
	for i := range 2000 {
		if err := d.Append("a", all); err != nil {
			t.Fatal(i, err)
		}
		want += string(all)
	}
	runs(t, d, "sync a")
	if b, err := d.Read("a"); string(b) != want || err != nil {
		t.Error(len(b), err)
	}
	if l := d.Files(); len(l) != 1 || string(l[0].Bytes) != want || l[0].Sure != len(want) {
		t.Error(len(l), l[0].Sure)
	}
	runs(t, d, "cut a 300")
	if b, err := d.Read("a"); string(b) != want[:300] || err != nil {
		t.Error(len(b), err)
	}
}
