package disk

import (
	"fmt"
	"slices"
	"strings"
	"testing"

	"muntin/api"
)

// dice are numbers that look like chance, the same ones in every run.
type dice uint64

// roll is a number below n.
func (d *dice) roll(n int) int {
	*d = *d*6364136223846793005 + 1442695040888963407
	return int(*d>>33) % n
}

// pick is one of some texts.
func (d *dice) pick(l ...string) string { return l[d.roll(len(l))] }

// call is one of a disk, in words: most of them as they may be, some not.
func (d *dice) call() string {
	name := d.pick("a", "a", "a", "b", "b", "ab", "c", "B", "1")
	p := "0123456789"[d.roll(5):][:d.roll(6)]
	switch d.roll(16) {
	case 0, 1:
		return "sync " + name
	case 2, 3:
		return "put " + name + " " + p
	case 4, 5:
		return fmt.Sprint("cut ", name, " ", d.roll(10)-1)
	case 6:
		return "remove " + name
	case 7:
		return "read " + name
	case 8, 9:
		return fmt.Sprint("arm ", d.roll(6)-1, " ", d.number())
	case 10, 11:
		out := "start"
		for range d.roll(6) {
			out += " " + d.number()
		}
		return out
	}
	return "append " + name + " " + p
}

// number is one of any size.
func (d *dice) number() string {
	switch d.roll(20) {
	case 0:
		return "MinInt"
	case 1:
		return "MaxInt"
	}
	return fmt.Sprint(d.roll(30) - 10)
}

// cell is a byte of a judge's file, and whether it is sure.
type cell struct {
	is   byte
	sure bool
}

// judge tells the chapter another way: each byte knows for itself whether it is sure; what is armed is held against all acts that were done since then.
type judge struct {
	files map[string][]cell
	off   bool
	armed []int // acts and part, if something is armed
	acts  int   // since it was armed
}

// cells are bytes that are all sure, or all not.
func cells(p string, sure bool) []cell {
	var out []cell
	for _, b := range []byte(p) {
		out = append(out, cell{b, sure})
	}
	return out
}

// text is the bytes of a file, and how many of them are sure.
func text(l []cell) (string, int) {
	out, sure := "", 0
	for _, c := range l {
		out += string([]byte{c.is})
		if c.sure {
			sure++
		}
	}
	return out, sure
}

// remainder is n modulo k, counted down or up to where it lies between.
func remainder(n, k int) int {
	for k < n {
		n -= (n / k) * k
	}
	for n < 0 {
		n += max(1, -n/k) * k
	}
	if n == k {
		return 0
	}
	return n
}

// see is what is seen of a disk.
func (j *judge) see() string {
	out := "on"
	if j.off {
		out = "off"
	}
	for _, name := range j.names() {
		b, sure := text(j.files[name])
		out += fmt.Sprintf(" %s:%q/%d", name, b, sure)
	}
	return out
}

// names are those of the files, as they rise.
func (j *judge) names() []string {
	var out []string
	for name := range j.files {
		out = append(out, name)
	}
	slices.Sort(out)
	return out
}

// wrong is what is told of a call that can't be done.
func (j *judge) wrong(kind, name, rest string) string {
	_, there := j.files[name]
	switch {
	case j.off:
		return "ErrDown"
	case name == "1":
		return "ErrArg"
	case !there && kind != "append" && kind != "put":
		return "ErrFile"
	case kind == "cut" && (number(rest) < 0 || number(rest) > len(j.files[name])):
		return "ErrArg"
	}
	return ""
}

// do does a call, and tells what is answered.
func (j *judge) do(call string) string {
	words := append(strings.Fields(call), "", "")
	kind, name, rest := words[0], words[1], words[2]
	switch kind {
	case "arm":
		j.armed, j.acts = nil, 0
		if number(name) >= 0 {
			j.armed = []int{number(name), number(rest)}
		}
		return ""
	case "start":
		j.start(strings.Fields(call)[1:])
		return ""
	}
	if is := j.wrong(kind, name, rest); is != "" {
		return is
	}
	if kind == "read" {
		b, _ := text(j.files[name])
		return b
	}
	cutOff := j.armed != nil && j.armed[0] == j.acts
	j.acts++
	if cutOff {
		j.cutOff(kind, name, rest, j.armed[1])
		j.off, j.armed = true, nil
		return "ErrDown"
	}
	j.act(kind, name, rest)
	return ""
}

// act does an act wholly.
func (j *judge) act(kind, name, rest string) {
	switch kind {
	case "append":
		j.files[name] = append(slices.Clip(j.files[name]), cells(rest, false)...)
	case "sync":
		b, _ := text(j.files[name])
		j.files[name] = cells(b, true)
	case "put":
		j.files[name] = cells(rest, true)
	case "cut":
		j.files[name] = j.files[name][:number(rest)]
	case "remove":
		delete(j.files, name)
	}
}

// cutOff does an act that is cut off.
func (j *judge) cutOff(kind, name, rest string, part int) {
	if kind == "append" {
		j.act(kind, name, rest[:remainder(part, len(rest)+1)])
	} else if part%2 != 0 {
		j.act(kind, name, rest)
	}
}

// start lets the power come back.
func (j *judge) start(keep []string) {
	for i, name := range j.names() {
		b, sure := text(j.files[name])
		if i < len(keep) {
			sure += remainder(number(keep[i]), len(b)-sure+1)
		}
		j.files[name] = cells(b[:sure], true)
	}
	j.off, j.armed = false, nil
}

// P18.1 to P18.4: drawn calls, against the chapter told another way.
func TestDrawnCalls(t *testing.T) {
	seen := map[string]int{}
	for seed := range 400 {
		d := dice(seed)
		disk, j := New(), judge{files: map[string][]cell{}}
		for step := range 150 {
			call := d.call()
			got, want := do(disk, call), j.do(call)
			if got != want || shown(disk) != j.see() {
				t.Fatalf("%d %d, %s: %q %s, not %q %s", seed, step, call, got, shown(disk), want, j.see())
			}
			seen[strings.Fields(call)[0]+" "+got]++
		}
	}
	for _, answer := range []string{"append ", "append ErrArg", "append ErrDown", "sync ", "sync ErrArg", "sync ErrDown", "sync ErrFile", "put ", "put ErrArg", "put ErrDown", "cut ", "cut ErrArg", "cut ErrFile", "cut ErrDown", "remove ", "remove ErrArg", "remove ErrFile", "remove ErrDown", "read ErrArg", "read ErrFile", "read ErrDown", "start ", "arm "} {
		if seen[answer] < 20 {
			t.Error("seldom seen:", answer, seen[answer])
		}
	}
}

// P18.2: each act of a script is cut off with each part, and each power after it keeps each number, against the chapter told another way.
func TestEachCutOff(t *testing.T) {
	script := []string{"append a 12", "sync a", "append a 345", "append b 6", "put b 78", "append b 9", "cut a 4", "sync b", "cut b 1", "append c 0", "remove a", "append a 1", "put a 234", "remove b", "sync c"}
	for acts := range len(script) + 1 {
		for part := -4; part < 5; part++ {
			for keep := range 4 {
				d, j := New(), judge{files: map[string][]cell{}}
				calls := append([]string{fmt.Sprint("arm ", acts, " ", part)}, script...)
				calls = append(calls, fmt.Sprint("start ", keep, " ", keep, " ", keep), "append a 5", "sync a")
				for _, call := range calls {
					if got, want := do(d, call), j.do(call); got != want || shown(d) != j.see() {
						t.Fatalf("%d %d %d, %s: %q %s, not %q %s", acts, part, keep, call, got, shown(d), want, j.see())
					}
				}
			}
		}
	}
}

// sureOnes are the bytes of each file that were sure at some time, and not Put, Cut or Removed since then.
type sureOnes map[string]string

// look holds files to what was sure, and learns what is sure now.
func (s sureOnes) look(t *testing.T, d *Disk, call string) {
	t.Helper()
	words := append(strings.Fields(call), "")
	if slices.Contains([]string{"put", "cut", "remove"}, words[0]) {
		delete(s, words[1])
	}
	there := map[string]bool{}
	for _, f := range d.Files() {
		there[f.Name] = true
		if f.Sure < 0 || f.Sure > len(f.Bytes) || f.Sure < len(s[f.Name]) || !strings.HasPrefix(string(f.Bytes), s[f.Name]) {
			t.Fatalf("%s: %s was sure of %s, now %q/%d", call, s[f.Name], f.Name, f.Bytes, f.Sure)
		}
		s[f.Name] = string(f.Bytes[:f.Sure])
	}
	for name := range s {
		if !there[name] {
			t.Fatal(call, name, "is gone")
		}
	}
}

// P18.6: what is sure lasts; a Put, cut off or not, is there wholly, or what was there before is.
func TestWhatIsSureLasts(t *testing.T) {
	wholly, not := 0, 0
	for seed := range 400 {
		d := dice(5000 + seed)
		disk, s := New(), sureOnes{}
		for range 150 {
			call := d.call()
			was := shown(disk)
			wasDown := disk.Down()
			got := do(disk, call)
			s.look(t, disk, call)
			if words := append(strings.Fields(call), ""); words[0] == "put" && disk.Down() && !wasDown {
				if shown(disk) == "off"+was[len("on"):] {
					not++
				} else if s[words[1]] == words[2] && got == "ErrDown" {
					wholly++
				} else {
					t.Fatal(call, was, shown(disk))
				}
			}
		}
	}
	if wholly < 20 || not < 20 {
		t.Error(wholly, not)
	}
}

// FuzzCalls has each byte, with the one behind it, be a call: P18.1 to P18.4, P18.6.
func FuzzCalls(f *testing.F) {
	f.Add([]byte("a disk, its files, and where its power goes"))
	f.Add([]byte{0, 1, 2, 3, 4, 5, 6, 7, 8, 9, 10, 11, 12, 13, 14, 15})
	f.Fuzz(func(t *testing.T, b []byte) {
		disk, j, s := New(), judge{files: map[string][]cell{}}, sureOnes{}
		for i := 0; i+1 < len(b) && i < 300; i += 2 {
			call := fuzzed(b[i], int(b[i+1]))
			got, want := do(disk, call), j.do(call)
			if got != want || shown(disk) != j.see() {
				t.Fatalf("%s: %q %s, not %q %s", call, got, shown(disk), want, j.see())
			}
			s.look(t, disk, call)
		}
	})
}

// fuzzed is the call that two bytes tell.
func fuzzed(kind byte, n int) string {
	name := []string{"a", "b", "c", "1"}[kind/8%4]
	p := "0123456789"[:n%11]
	switch kind % 8 {
	case 0:
		return "sync " + name
	case 1:
		return "put " + name + " " + p
	case 2:
		return fmt.Sprint("cut ", name, " ", n%16-1)
	case 3:
		return "remove " + name
	case 4:
		return fmt.Sprint("arm ", n%4-1, " ", n/4-30)
	case 5:
		return fmt.Sprint("start ", n-100, " ", n/2)
	case 6:
		return "read " + name
	}
	return "append " + name + " " + p
}

// P18.2, P18.3, with W7: parts and keeps of any size are taken modulo, from 0 on.
func TestDrawnParts(t *testing.T) {
	d := dice(77)
	for range 3000 {
		n := int(uint64(d.roll(1<<30))<<34|uint64(d.roll(1<<30))<<4) - d.roll(2)
		size := d.roll(9)
		want := remainder(n, size+1)
		disk := New()
		disk.Arm(0, n)
		if err := disk.Append("a", make([]byte, size)); err != api.ErrDown || len(disk.Files()[0].Bytes) != want {
			t.Fatal(n, size, err, len(disk.Files()[0].Bytes), "not", want)
		}
		disk = New()
		if err := disk.Append("a", make([]byte, size)); err != nil {
			t.Fatal(err)
		}
		disk.Start([]int{n})
		if l := disk.Files(); len(l[0].Bytes) != want || l[0].Sure != want {
			t.Fatal(n, size, l, "not", want)
		}
	}
}
