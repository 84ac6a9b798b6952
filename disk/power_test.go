package disk

import (
	"fmt"
	"testing"

	"muntin/api"
)

// P18.2: of an Append that is cut off part modulo (the length and 1) bytes are there, which aren't sure; of one that makes a file too.
func TestCutOffAppend(t *testing.T) {
	for _, x := range []struct {
		part, bytes string
	}{
		{"0", ""}, {"1", "1"}, {"2", "12"}, {"5", "12345"}, {"6", ""}, {"7", "1"}, {"11", "12345"}, {"12", ""}, {"600004", "1234"},
		{"-1", "12345"}, {"-2", "1234"}, {"-5", "1"}, {"-6", ""}, {"-7", "12345"}, {"MaxInt", "1"}, {"MinInt", "1234"},
	} {
		d := disk(t, "put a xyz", "arm 0 "+x.part, "append a 12345 -> ErrDown", fmt.Sprintf("see -> off a:%q/3", "xyz"+x.bytes))
		runs(t, d, "start", "read a -> xyz", "append b 6", `see -> on a:"xyz"/3 b:"6"/0`)
		d = disk(t, "arm 0 "+x.part, "append b 12345 -> ErrDown", fmt.Sprintf("see -> off b:%q/0", x.bytes))
		runs(t, d, "start 5 5", fmt.Sprintf("see -> on b:%q/%d", x.bytes[:min(len(x.bytes), 5%(len(x.bytes)+1))], 5%(len(x.bytes)+1)))
	}
	for _, part := range []string{"0", "1", "-1", "MaxInt", "MinInt"} {
		runs(t, New(), "put a xyz", "arm 0 "+part, "append a -> ErrDown", `see -> off a:"xyz"/3`)
		runs(t, New(), "arm 0 "+part, "append a -> ErrDown", `see -> off a:""/0`)
	}
}

// P18.2: of each of the others all is done, if the part is odd, and nothing, if it is even.
func TestCutOffOthers(t *testing.T) {
	for _, x := range []struct{ call, done string }{
		{"sync b", `a:"aaa"/3 b:"bbbbb"/5 c:"ccc"/0`},
		{"sync a", `a:"aaa"/3 b:"bbbbb"/2 c:"ccc"/0`},
		{"put a q", `a:"q"/1 b:"bbbbb"/2 c:"ccc"/0`},
		{"put c", `a:"aaa"/3 b:"bbbbb"/2 c:""/0`},
		{"put d qqq", `a:"aaa"/3 b:"bbbbb"/2 c:"ccc"/0 d:"qqq"/3`},
		{"cut b 4", `a:"aaa"/3 b:"bbbb"/2 c:"ccc"/0`},
		{"cut b 1", `a:"aaa"/3 b:"b"/1 c:"ccc"/0`},
		{"cut a 3", `a:"aaa"/3 b:"bbbbb"/2 c:"ccc"/0`},
		{"remove b", `a:"aaa"/3 c:"ccc"/0`},
	} {
		for _, part := range []string{"1", "3", "-1", "-7", "MaxInt", "99999"} {
			runs(t, three(t), "arm 0 "+part, x.call+" -> ErrDown", "see -> off "+x.done)
		}
		for _, part := range []string{"0", "2", "-2", "-8", "MinInt", "100000"} {
			runs(t, three(t), "arm 0 "+part, x.call+" -> ErrDown", `see -> off a:"aaa"/3 b:"bbbbb"/2 c:"ccc"/0`)
		}
	}
}

// P18.2: the act behind so many more is cut off, and nothing is armed then.
func TestArmedBehindActs(t *testing.T) {
	acts := []string{"append a x", "sync a", "append a", "put b y", "cut a 1", "remove b", "put a zz", "append c w", "sync c"}
	for n := range acts {
		d := disk(t, fmt.Sprint("arm ", n, " 1"))
		runs(t, d, acts[:n]...)
		runs(t, d, acts[n]+" -> ErrDown", "append a x -> ErrDown")
		if !d.Down() {
			t.Error(n, "on")
		}
		runs(t, d, "start")
		runs(t, d, acts...)
		if d.Down() {
			t.Error(n, "off")
		}
	}
	d := disk(t, fmt.Sprint("arm ", len(acts), " 1"))
	runs(t, d, acts...)
	runs(t, d, "sync a -> ErrDown")
}

// P18.2: calls that tell an error otherwise are no acts, nor are Read, Files and Down.
func TestRefusedAreNoActs(t *testing.T) {
	others := []string{"append 1 x -> ErrArg", "put 1 x -> ErrArg", "sync 1 -> ErrArg", "cut 1 0 -> ErrArg", "remove 1 -> ErrArg", "sync d -> ErrFile", "cut d 0 -> ErrFile", "remove d -> ErrFile", "cut a -1 -> ErrArg", "cut a 4 -> ErrArg", "read a -> aaa", "read d -> ErrFile", "read 1 -> ErrArg", `see -> on a:"aaa"/3 b:"bbbbb"/2 c:"ccc"/0`}
	for n := range 3 {
		d := three(t)
		runs(t, d, fmt.Sprint("arm ", n, " 1"))
		for range n {
			runs(t, d, others...)
			runs(t, d, "sync a")
		}
		runs(t, d, others...)
		runs(t, d, "put a q -> ErrDown", `see -> off a:"q"/1 b:"bbbbb"/2 c:"ccc"/0`)
	}
}

// P18.2: what was armed ahead is not any more; acts below 0 arm nothing.
func TestArmedAnew(t *testing.T) {
	runs(t, three(t), "arm 0 1", "arm 2 0", "sync a", "sync a", "put a q -> ErrDown", `see -> off a:"aaa"/3 b:"bbbbb"/2 c:"ccc"/0`)
	runs(t, three(t), "arm 2 0", "sync a", "arm 0 1", "put a q -> ErrDown", `see -> off a:"q"/1 b:"bbbbb"/2 c:"ccc"/0`)
	runs(t, three(t), "arm 1 0", "sync a", "arm 1 0", "sync a", "sync a -> ErrDown")
	for _, acts := range []string{"-1", "-2", "MinInt"} {
		runs(t, three(t), "arm 0 1", "arm "+acts+" 1", "put a q", "sync a", "remove b", `see -> on a:"q"/1 c:"ccc"/0`)
		runs(t, three(t), "arm "+acts+" 0", "put a q", "sync a")
	}
	d := three(t)
	runs(t, d, "arm MaxInt MinInt")
	for range 1000 {
		runs(t, d, "sync a")
	}
}

// P18.2, P18.3: what is armed where the power is off is not any more, once it is on again.
func TestArmedWhileOff(t *testing.T) {
	d := disk(t, "put a x", "arm 0 0", "sync a -> ErrDown", "arm 0 0", "put a y -> ErrDown", `see -> off a:"x"/1`, "arm 3 1", "put a y -> ErrDown", "start", "put a z", "sync a", "put a y", "put a z", `see -> on a:"z"/1`)
	runs(t, d, "arm 0 1", "put a q -> ErrDown", "put a r -> ErrDown", `see -> off a:"q"/1`)
}

// P18.3: each file keeps its sure bytes, and as many of the others as its number says; these are sure.
func TestStart(t *testing.T) {
	for _, x := range []struct{ keep, files string }{
		{"", `a:"aaa"/3 b:"bb"/2 c:""/0`},
		{" 0", `a:"aaa"/3 b:"bb"/2 c:""/0`},
		{" 7", `a:"aaa"/3 b:"bb"/2 c:""/0`},
		{" 0 1", `a:"aaa"/3 b:"bbb"/3 c:""/0`},
		{" 1 2 3", `a:"aaa"/3 b:"bbbb"/4 c:"ccc"/3`},
		{" 1 3 2", `a:"aaa"/3 b:"bbbbb"/5 c:"cc"/2`},
		{" 1 4 5", `a:"aaa"/3 b:"bb"/2 c:"c"/1`},
		{" 0 -1 -2", `a:"aaa"/3 b:"bbbbb"/5 c:"cc"/2`},
		{" 0 -4 -5", `a:"aaa"/3 b:"bb"/2 c:"ccc"/3`},
		{" MinInt MinInt MaxInt", `a:"aaa"/3 b:"bb"/2 c:"ccc"/3`},
		{" MaxInt MaxInt MinInt 1 2 3", `a:"aaa"/3 b:"bbbbb"/5 c:""/0`},
	} {
		d := three(t)
		runs(t, d, "start"+x.keep, "see -> on "+x.files, "start", "see -> on "+x.files, "start 1 1 1", "see -> on "+x.files)
		d = three(t)
		runs(t, d, "arm 0 0", "put a q -> ErrDown", "start"+x.keep, "see -> on "+x.files)
	}
	runs(t, New(), "start 1 2 3", "see -> on")
}

// P18.3: a file stays, though none of its bytes do, and counts among the others.
func TestStartKeepsEmptyFiles(t *testing.T) {
	d := disk(t, "append a xyz", "append b", "append c uvw", "start 0 5 2", `see -> on a:""/0 b:""/0 c:"uv"/2`, "read a -> ", "sync b", "cut a 0", "append a 1", `see -> on a:"1"/0 b:""/0 c:"uv"/2`)
	runs(t, d, "remove a", "append c w", "start 9 1", `see -> on b:""/0 c:"uvw"/3`)
}

// P18.3: with the power on, too, nothing is armed any more.
func TestStartDisarms(t *testing.T) {
	for _, acts := range []string{"0", "1", "2"} {
		runs(t, three(t), "arm "+acts+" 0", "start", "put a 1", "put a 2", "put a 3", "put a 4", "read a -> 4")
	}
}

// P18.3: what is kept is sure: it stays, whenever the power goes.
func TestKeptIsSure(t *testing.T) {
	d := New()
	for i := range 20 {
		runs(t, d, "arm 0 2", "append a xyz -> ErrDown", "start 1", fmt.Sprintf("see -> on a:%q/%d", "xxxxxxxxxxxxxxxxxxxx"[:i+1], i+1))
	}
}

// P18.6: a Put that is cut off lasts wholly, or not at all, whatever is kept.
func TestPutLastsWhollyOrNot(t *testing.T) {
	for part := range 6 {
		for _, keep := range []int{api.MinInt, 0, 1, 2, 5, api.MaxInt} {
			d := disk(t, "put a old", fmt.Sprint("arm 0 ", part), "put a newer -> ErrDown", fmt.Sprint("start ", keep))
			want := "old"
			if part%2 == 1 {
				want = "newer"
			}
			runs(t, d, "read a -> "+want, fmt.Sprintf("see -> on a:%q/%d", want, len(want)))
			d = disk(t, fmt.Sprint("arm 0 ", part), "put a newer -> ErrDown", fmt.Sprint("start ", keep))
			if l := d.Files(); len(l) != part%2 || part%2 == 1 && (string(l[0].Bytes) != "newer" || l[0].Sure != 5) {
				t.Error(part, keep, l)
			}
		}
	}
}
