package wire

import (
	"bytes"
	"hash/crc32"
	"strconv"
	"testing"

	"muntin/api"
)

// numbers are the ends of each width that a number may have, and what is beside them.
func numbers() []int {
	out := []int{0, 1, 2, 127, 128, api.MaxInt - 1, api.MaxInt}
	for i := 8; i < 63; i += 8 {
		out = append(out, 1<<i-1, 1<<i, 1<<i+1)
	}
	return out
}

// pattern is so many bytes, of which neighbours differ.
func pattern(n, seed int) []byte {
	out := make([]byte, n)
	for i := range out {
		out[i] = byte(i*7 + i>>8 + seed)
	}
	return out
}

// written is what a call made, of which no error is awaited.
func written(t *testing.T, b []byte, err error) []byte {
	t.Helper()
	if err != nil {
		t.Fatal(err)
	}
	return b
}

func frame(t *testing.T, p []byte) []byte {
	t.Helper()
	b, err := Frame(p)
	return written(t, b, err)
}

// sealed is a count and bytes with their right sum, whatever the count says.
func sealed(count uint32, p []byte) []byte {
	b := append([]byte{byte(count >> 24), byte(count >> 16), byte(count >> 8), byte(count)}, p...)
	s := sumByDefinition(b)
	return append(b, byte(s>>24), byte(s>>16), byte(s>>8), byte(s))
}

func sumByDefinition(b []byte) int {
	register := uint32(0xFFFFFFFF)
	for _, x := range b {
		register ^= uint32(x)
		for range 8 {
			out := register & 1
			register >>= 1
			if out == 1 {
				register ^= 0x82F63B78
			}
		}
	}
	return int(^register)
}

// P1.1
func TestNumWrites(t *testing.T) {
	for _, x := range []struct {
		n    int
		want []byte
	}{
		{0, []byte{0}},
		{1, []byte{1, 1}},
		{255, []byte{1, 255}},
		{256, []byte{2, 1, 0}},
		{65535, []byte{2, 255, 255}},
		{65536, []byte{3, 1, 0, 0}},
		{1 << 24, []byte{4, 1, 0, 0, 0}},
		{1 << 32, []byte{5, 1, 0, 0, 0, 0}},
		{1 << 40, []byte{6, 1, 0, 0, 0, 0, 0}},
		{1<<56 - 1, []byte{7, 255, 255, 255, 255, 255, 255, 255}},
		{1 << 56, []byte{8, 1, 0, 0, 0, 0, 0, 0, 0}},
		{0x0102030405060708, []byte{8, 1, 2, 3, 4, 5, 6, 7, 8}},
		{api.MaxInt, []byte{8, 127, 255, 255, 255, 255, 255, 255, 255}},
	} {
		if b, err := Num(x.n); err != nil || !bytes.Equal(b, x.want) {
			t.Errorf("Num(%d): %v, %v; want %v", x.n, b, err, x.want)
		}
	}
}

// P1.1
func TestNumRefuses(t *testing.T) {
	for _, n := range []int{-1, -256, -api.MaxInt, api.MinInt} {
		if b, err := Num(n); len(b) != 0 || api.Code(err) != api.ErrArg {
			t.Errorf("Num(%d): %v, %v", n, b, err)
		}
	}
}

// P1.1
func TestTakeNumTakes(t *testing.T) {
	for _, x := range []struct {
		b       []byte
		n, used int
	}{
		{[]byte{0}, 0, 1},
		{[]byte{0, 0, 7}, 0, 1},
		{[]byte{1, 1}, 1, 2},
		{[]byte{1, 255, 255}, 255, 2},
		{[]byte{2, 1, 0, 9}, 256, 3},
		{[]byte{7, 255, 255, 255, 255, 255, 255, 255}, 1<<56 - 1, 8},
		{[]byte{7, 128, 0, 0, 0, 0, 0, 0}, 1 << 55, 8},
		{[]byte{8, 1, 0, 0, 0, 0, 0, 0, 0}, 1 << 56, 9},
		{[]byte{8, 127, 255, 255, 255, 255, 255, 255, 255}, api.MaxInt, 9},
	} {
		if n, used, err := TakeNum(x.b); n != x.n || used != x.used || err != nil {
			t.Errorf("TakeNum(%v): %d, %d, %v; want %d, %d", x.b, n, used, err, x.n, x.used)
		}
	}
}

// P1.1: of two faults the one that is named first is told.
func TestTakeNumRefuses(t *testing.T) {
	for _, x := range []struct {
		b    []byte
		want api.Errno
	}{
		{nil, api.ErrEnd},
		{[]byte{}, api.ErrEnd},
		{[]byte{9}, api.ErrForm},
		{[]byte{9, 1, 1, 1, 1, 1, 1, 1, 1, 1}, api.ErrForm},
		{[]byte{255}, api.ErrForm},
		{[]byte{1}, api.ErrEnd},
		{[]byte{2, 1}, api.ErrEnd},
		{[]byte{2, 0}, api.ErrEnd},
		{[]byte{8, 127, 255, 255, 255, 255, 255, 255}, api.ErrEnd},
		{[]byte{8, 255}, api.ErrEnd},
		{[]byte{1, 0}, api.ErrForm},
		{[]byte{2, 0, 1}, api.ErrForm},
		{[]byte{7, 0, 1, 1, 1, 1, 1, 1}, api.ErrForm},
		{[]byte{8, 0, 255, 255, 255, 255, 255, 255, 255}, api.ErrForm},
		{[]byte{8, 128, 0, 0, 0, 0, 0, 0, 0}, api.ErrForm},
		{[]byte{8, 255, 255, 255, 255, 255, 255, 255, 255}, api.ErrForm},
	} {
		if n, used, err := TakeNum(x.b); n != 0 || used != 0 || api.Code(err) != x.want {
			t.Errorf("TakeNum(%v): %d, %d, %v; want %v", x.b, n, used, err, x.want)
		}
	}
}

// P1.2
func TestBlobWrites(t *testing.T) {
	for _, x := range []struct {
		p    []byte
		head []byte
	}{
		{nil, []byte{0}},
		{[]byte{}, []byte{0}},
		{[]byte("ab"), []byte{1, 2}},
		{[]byte{0}, []byte{1, 1}},
		{pattern(255, 1), []byte{1, 255}},
		{pattern(256, 2), []byte{2, 1, 0}},
		{pattern(api.MaxBlob-1, 3), []byte{2, 255, 255}},
		{pattern(api.MaxBlob, 4), []byte{3, 1, 0, 0}},
	} {
		want := append(bytes.Clone(x.head), x.p...)
		if b, err := Blob(x.p); err != nil || !bytes.Equal(b, want) {
			t.Errorf("Blob of %d bytes: %d bytes, %v", len(x.p), len(b), err)
		}
		p, used, err := TakeBlob(append(want, 5, 6))
		if err != nil || used != len(x.head)+len(x.p) || !bytes.Equal(p, x.p) {
			t.Errorf("TakeBlob of %d bytes: %d bytes, %d, %v", len(x.p), len(p), used, err)
		}
	}
}

// P1.2
func TestBlobRefuses(t *testing.T) {
	for _, n := range []int{api.MaxBlob + 1, 2 * api.MaxBlob} {
		if b, err := Blob(make([]byte, n)); len(b) != 0 || api.Code(err) != api.ErrLong {
			t.Errorf("Blob of %d bytes: %d bytes, %v", n, len(b), err)
		}
	}
	tooLong := append([]byte{3, 1, 0, 1}, make([]byte, api.MaxBlob+1)...)
	for _, x := range []struct {
		b    []byte
		want api.Errno
	}{
		{nil, api.ErrEnd},
		{[]byte{1}, api.ErrEnd},
		{[]byte{9}, api.ErrForm},
		{[]byte{1, 0}, api.ErrForm},
		{[]byte{2, 0, 1, 7}, api.ErrForm},
		{[]byte{8, 128, 0, 0, 0, 0, 0, 0, 0}, api.ErrForm},
		{[]byte{3, 1, 0, 1}, api.ErrLong},
		{tooLong, api.ErrLong},
		{[]byte{8, 127, 255, 255, 255, 255, 255, 255, 255}, api.ErrLong},
		{[]byte{3, 1, 0, 0}, api.ErrEnd},
		{append([]byte{3, 1, 0, 0}, make([]byte, api.MaxBlob-1)...), api.ErrEnd},
		{[]byte{1, 1}, api.ErrEnd},
		{[]byte{1, 2, 97}, api.ErrEnd},
	} {
		if p, used, err := TakeBlob(x.b); len(p) != 0 || used != 0 || api.Code(err) != x.want {
			t.Errorf("TakeBlob of %d bytes: %v, %d, %v; want %v", len(x.b), p, used, err, x.want)
		}
	}
}

// P1.3
func TestSum(t *testing.T) {
	for _, x := range []struct {
		b    []byte
		want int
	}{
		{nil, 0},
		{[]byte{}, 0},
		{[]byte("123456789"), 3808858755},
		{make([]byte, 32), 0x8A9136AA},
		{bytes.Repeat([]byte{255}, 32), 0x62A8AB43},
	} {
		if n := Sum(x.b); n != x.want {
			t.Errorf("Sum(%v): %d; want %d", x.b, n, x.want)
		}
	}
	table := crc32.MakeTable(crc32.Castagnoli)
	for x := range 256 {
		b := []byte{byte(x)}
		if n := Sum(b); n != sumByDefinition(b) {
			t.Errorf("Sum(%v): %d; want %d", b, n, sumByDefinition(b))
		}
	}
	for _, size := range []int{2, 3, 255, 1000, 70000} {
		b := pattern(size, size)
		if n := Sum(b); n != sumByDefinition(b) || n != int(crc32.Checksum(b, table)) {
			t.Errorf("Sum of %d bytes: %d", size, n)
		}
	}
}

// P1.3
func TestFrameWrites(t *testing.T) {
	for _, x := range []struct {
		size int
		head []byte
	}{
		{0, []byte{0, 0, 0, 0}},
		{1, []byte{0, 0, 0, 1}},
		{258, []byte{0, 0, 1, 2}},
		{api.MaxBlob + 1, []byte{0, 1, 0, 1}},
		{api.MaxFrame - 1, []byte{0, 15, 255, 255}},
		{api.MaxFrame, []byte{0, 16, 0, 0}},
	} {
		p := pattern(x.size, 9)
		want := append(bytes.Clone(x.head), p...)
		s := sumByDefinition(want)
		want = append(want, byte(s>>24), byte(s>>16), byte(s>>8), byte(s))
		b, err := Frame(p)
		if err != nil || !bytes.Equal(b, want) {
			t.Errorf("Frame of %d bytes: %d bytes, %v", x.size, len(b), err)
		}
		got, used, err := Open(append(want, 1))
		if err != nil || used != x.size+8 || !bytes.Equal(got, p) {
			t.Errorf("Open of %d bytes: %d bytes, %d, %v", x.size, len(got), used, err)
		}
	}
	if b, err := Frame(make([]byte, api.MaxFrame+1)); len(b) != 0 || api.Code(err) != api.ErrLong {
		t.Errorf("Frame of a byte too many: %d bytes, %v", len(b), err)
	}
}

// P1.3: of two faults the one that is named first is told.
func TestOpenRefuses(t *testing.T) {
	whole := frame(t, []byte("abc"))
	for _, x := range []struct {
		name string
		b    []byte
		want api.Errno
	}{
		{"nothing", nil, api.ErrEnd},
		{"three bytes", []byte{255, 255, 255}, api.ErrEnd},
		{"a count too great, alone", []byte{0, 16, 0, 1}, api.ErrLong},
		{"the greatest count", []byte{255, 255, 255, 255}, api.ErrLong},
		{"a whole frame too long", sealed(api.MaxFrame+1, make([]byte, api.MaxFrame+1)), api.ErrLong},
		{"the greatest count that may be, alone", []byte{0, 16, 0, 0}, api.ErrEnd},
		{"a count alone", []byte{0, 0, 0, 0}, api.ErrEnd},
		{"no sum", whole[:7], api.ErrEnd},
		{"a byte too few, and wrong", append([]byte{0, 0, 0, 3, 1}, whole[5:10]...), api.ErrEnd},
		{"noughts", make([]byte, 8), api.ErrSum},
		{"another count", sealed(2, []byte("abc")), api.ErrSum},
	} {
		if p, used, err := Open(x.b); len(p) != 0 || used != 0 || api.Code(err) != x.want {
			t.Errorf("Open of %s: %v, %d, %v; want %v", x.name, p, used, err, x.want)
		}
	}
	for i := 4; i < len(whole); i++ {
		for bit := range 8 {
			b := bytes.Clone(whole)
			b[i] ^= 1 << bit
			if p, used, err := Open(b); len(p) != 0 || used != 0 || api.Code(err) != api.ErrSum {
				t.Errorf("Open with bit %d of byte %d turned: %v, %d, %v", bit, i, p, used, err)
			}
		}
	}
}

// P1.4
func TestScan(t *testing.T) {
	a, none, c := frame(t, []byte("a")), frame(t, nil), frame(t, pattern(300, 5))
	broken := bytes.Clone(none)
	broken[7] ^= 1
	for _, x := range []struct {
		name string
		b    []byte
		want []string
		used int
		code api.Errno
	}{
		{"nothing", nil, nil, 0, api.OK},
		{"one", a, []string{"a"}, 9, api.OK},
		{"three", bytes.Join([][]byte{a, none, c}, nil), []string{"a", "", string(pattern(300, 5))}, 9 + 8 + 308, api.OK},
		{"two and three bytes more", bytes.Join([][]byte{a, none, {0, 0, 0}}, nil), []string{"a", ""}, 17, api.ErrEnd},
		{"one and a count too great", bytes.Join([][]byte{a, {0, 16, 0, 1}}, nil), []string{"a"}, 9, api.ErrLong},
		{"a broken one between", bytes.Join([][]byte{a, broken, c}, nil), []string{"a"}, 9, api.ErrSum},
		{"a broken one ahead", bytes.Join([][]byte{broken, a, c}, nil), nil, 0, api.ErrSum},
		{"one that is cut off", c[:307], nil, 0, api.ErrEnd},
	} {
		l, used, err := Scan(x.b)
		if !same(l, x.want) || used != x.used || api.Code(err) != x.code {
			t.Errorf("Scan of %s: %d parts, %d, %v; want %d parts, %d, %v", x.name, len(l), used, err, len(x.want), x.used, x.code)
		}
		if x.used < len(x.b) {
			if _, _, rest := Open(x.b[x.used:]); api.Code(rest) != api.Code(err) {
				t.Errorf("Scan of %s: %v; Open of the rest: %v", x.name, err, rest)
			}
		}
	}
}

func same(l [][]byte, want []string) bool {
	if len(l) != len(want) {
		return false
	}
	for i := range l {
		if string(l[i]) != want[i] {
			return false
		}
	}
	return true
}

// roomy is the same bytes with marked spare room behind them, and all of that memory.
func roomy(p []byte) ([]byte, []byte) {
	all := append(bytes.Clone(p), bytes.Repeat([]byte{0xEE}, 64)...)
	return all[:len(p)], all
}

// spoil turns every byte, spare room too.
func spoil(p []byte) {
	p = p[:cap(p)]
	for i := range p {
		p[i] ^= 0xFF
	}
}

// P1.5
func TestMemoryIsNew(t *testing.T) {
	calls := map[string]func(p []byte) []byte{
		"Num":      func(p []byte) []byte { b, err := Num(len(p)); return written(t, b, err) },
		"Blob":     func(p []byte) []byte { b, err := Blob(p); return written(t, b, err) },
		"TakeBlob": func(p []byte) []byte { b, _, err := TakeBlob(p); return written(t, b, err) },
		"Frame":    func(p []byte) []byte { b, err := Frame(p); return written(t, b, err) },
		"Open":     func(p []byte) []byte { b, _, err := Open(p); return written(t, b, err) },
	}
	inputs := map[string][][]byte{
		"Num":      {nil, []byte("abc")},
		"Blob":     {nil, []byte("abc"), pattern(300, 1)},
		"TakeBlob": {{0}, {1, 3, 97, 98, 99}, {1, 1, 97, 7, 7}},
		"Frame":    {nil, []byte("abc"), pattern(300, 1)},
		"Open":     {frame(t, nil), frame(t, []byte("abc")), append(frame(t, []byte("a")), 7, 7)},
	}
	for name, call := range calls {
		for i, in := range inputs[name] {
			p, all := roomy(in)
			before := bytes.Clone(all)
			first := call(p)
			kept := bytes.Clone(first)
			second := call(p)
			spoil(second)
			if !bytes.Equal(all, before) {
				t.Errorf("%s %d: the argument has changed", name, i)
			}
			if !bytes.Equal(first, kept) {
				t.Errorf("%s %d: two answers share memory", name, i)
			}
			spoil(all)
			if !bytes.Equal(first, kept) {
				t.Errorf("%s %d: the answer hangs on the argument", name, i)
			}
			spoil(all)
			if third := call(p); !bytes.Equal(third, kept) {
				t.Errorf("%s %d: the answer hangs on an earlier one", name, i)
			}
		}
	}
}

// P1.5
func TestReadingChangesNothing(t *testing.T) {
	for i, in := range [][]byte{nil, {0}, {2, 1, 0}, {9}, {1, 2, 97}, frame(t, []byte("abc")), append(frame(t, nil), 1)} {
		p, all := roomy(in)
		before := bytes.Clone(all)
		TakeNum(p)
		TakeBlob(p)
		Sum(p)
		Open(p)
		Scan(p)
		if !bytes.Equal(all, before) {
			t.Errorf("input %d has changed", i)
		}
	}
}

// P1.5
func TestScanMemoryIsNew(t *testing.T) {
	want := []string{"a", "", "bcd", "e"}
	var in []byte
	for _, w := range want {
		in = append(in, frame(t, []byte(w))...)
	}
	p, all := roomy(in)
	before := bytes.Clone(all)
	l, _, err := Scan(p)
	if err != nil || !same(l, want) {
		t.Fatal(l, err)
	}
	for i := range l {
		spoil(l[i])
		for k := range l {
			if k != i && string(l[k]) != want[k] {
				t.Errorf("parts %d and %d share memory", i, k)
			}
		}
		spoil(l[i])
	}
	if !bytes.Equal(all, before) {
		t.Error("the argument has changed")
	}
	again, _, _ := Scan(p)
	spoil(all)
	clear(again[:cap(again)])
	if !same(l, want) {
		t.Error("the answer hangs on the argument, or on another answer")
	}
}

// P1.6
func TestNumThereAndBack(t *testing.T) {
	for _, n := range numbers() {
		num, err := Num(n)
		b := written(t, num, err)
		for _, behind := range [][]byte{nil, {0}, {255}, {1, 1}, pattern(20, n)} {
			got, used, err := TakeNum(append(bytes.Clone(b), behind...))
			if got != n || used != len(b) || err != nil {
				t.Errorf("%d, with %v behind it: %d, %d, %v", n, behind, got, used, err)
			}
		}
	}
}

// P1.6
func TestNumIsTakenAsWritten(t *testing.T) {
	edges := []byte{0, 1, 2, 3, 7, 8, 9, 127, 128, 255}
	taken := 0
	for width := range 12 {
		for _, head := range edges {
			for _, next := range edges {
				for _, rest := range edges {
					b := append([]byte{head, next}, bytes.Repeat([]byte{rest}, 10)...)[:width]
					n, used, err := TakeNum(b)
					if err != nil {
						continue
					}
					taken++
					if again, err := Num(n); err != nil || !bytes.Equal(again, b[:used]) {
						t.Errorf("TakeNum(%v): %d, %d; Num: %v, %v", b, n, used, again, err)
					}
				}
			}
		}
	}
	if taken == 0 {
		t.Error("nothing was taken")
	}
}

// P1.6
func TestBlobThereAndBack(t *testing.T) {
	for _, size := range []int{0, 1, 2, 8, 9, 255, 256, 257, api.MaxBlob - 1, api.MaxBlob} {
		p := pattern(size, size)
		blob, err := Blob(p)
		b := written(t, blob, err)
		for _, behind := range [][]byte{nil, {0}, {9, 9}, pattern(20, 3)} {
			got, used, err := TakeBlob(append(bytes.Clone(b), behind...))
			if !bytes.Equal(got, p) || used != len(b) || err != nil {
				t.Errorf("%d bytes, with %v behind them: %d bytes, %d, %v", size, behind, len(got), used, err)
			}
		}
	}
	for x := range 1 << 16 {
		b := []byte{byte(x >> 8), byte(x), 97, 98, 99}
		p, used, err := TakeBlob(b)
		if err != nil {
			continue
		}
		if again, err := Blob(p); err != nil || !bytes.Equal(again, b[:used]) {
			t.Errorf("TakeBlob(%v): %v, %d; Blob: %v, %v", b, p, used, again, err)
		}
	}
}

// P1.6
func TestFrameThereAndBack(t *testing.T) {
	for _, size := range []int{0, 1, 4, 8, 255, 256, 70000, api.MaxFrame} {
		p := pattern(size, size)
		b := frame(t, p)
		for _, behind := range [][]byte{nil, {0}, {255, 255, 255, 255}, b[:1]} {
			got, used, err := Open(append(bytes.Clone(b), behind...))
			if !bytes.Equal(got, p) || used != len(b) || err != nil {
				t.Errorf("%d bytes, with %v behind them: %d bytes, %d, %v", size, behind, len(got), used, err)
			}
		}
	}
	for size := range 6 {
		for count := range uint32(6) {
			b := sealed(count, pattern(size, 1))
			p, used, err := Open(b)
			if (err == nil) != (int(count) == size) {
				t.Errorf("a count of %d and %d bytes: %v", count, size, err)
			}
			if again, _ := Frame(p); err == nil && !bytes.Equal(again, b[:used]) {
				t.Errorf("Open(%v): %v, %d; Frame: %v", b, p, used, again)
			}
		}
	}
}

// torn are parts, their frames one behind another, and where each frame ends.
func torn(t *testing.T, count int) ([]string, []byte, []int) {
	t.Helper()
	var parts []string
	var all []byte
	var ends []int
	for i := range count {
		p := pattern(i*i%23, i)
		parts = append(parts, string(p))
		all = append(all, frame(t, p)...)
		ends = append(ends, len(all))
	}
	return parts, all, ends
}

// P1.6
func TestScanThereAndBack(t *testing.T) {
	for count := range 40 {
		parts, all, _ := torn(t, count)
		l, used, err := Scan(all)
		if !same(l, parts) || used != len(all) || err != nil {
			t.Errorf("%d frames: %d, %d, %v", count, len(l), used, err)
		}
	}
}

// P1.7
func TestScanOfATornEnd(t *testing.T) {
	parts, all, ends := torn(t, 12)
	for cut := range len(all) + 1 {
		whole, end := 0, 0
		for whole < len(ends) && ends[whole] <= cut {
			end = ends[whole]
			whole++
		}
		want := api.ErrEnd
		if end == cut {
			want = api.OK
		}
		l, used, err := Scan(all[:cut])
		if !same(l, parts[:whole]) || used != end || api.Code(err) != want {
			t.Errorf("cut at %d: %d parts, %d, %v; want %d parts, %d, %v", cut, len(l), used, err, whole, end, want)
		}
	}
}

// P1.1 to P1.4, and W1: no call panics, whatever it is given, and what an error stands beside is nothing.
func FuzzTake(f *testing.F) {
	for _, s := range []string{"", "\x00", "\x02\x01\x00", "\x09", "\x00\x00\x00\x00", "\x00\x10\x00\x01" + strconv.Itoa(api.MaxInt)} {
		f.Add([]byte(s))
	}
	f.Fuzz(func(t *testing.T, b []byte) {
		if n, used, err := TakeNum(b); err != nil && (n != 0 || used != 0) || used > len(b) {
			t.Error("TakeNum", n, used, err)
		}
		if p, used, err := TakeBlob(b); err != nil && (len(p) != 0 || used != 0) || used > len(b) {
			t.Error("TakeBlob", p, used, err)
		}
		if p, used, err := Open(b); err != nil && (len(p) != 0 || used != 0) || used > len(b) {
			t.Error("Open", p, used, err)
		}
		l, used, err := Scan(b)
		if (err == nil) != (used == len(b)) {
			t.Error("Scan", l, used, err)
		}
		if s := Sum(b); s != sumByDefinition(b) {
			t.Error("Sum", s)
		}
		framed, err := Frame(b)
		if p, used, again := Open(framed); err != nil || again != nil || used != len(framed) || !bytes.Equal(p, b) {
			t.Error("Frame", err, again)
		}
	})
}
