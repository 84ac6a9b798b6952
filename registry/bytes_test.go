package registry

import (
	"bytes"
	"fmt"
	"strings"
	"testing"

	"muntin/api"
)

// longest is a text of as many bytes as a source has at most.
var longest = strings.Repeat("s", api.MaxSource)

// P17.1: commands in bytes, each kind of them, and back.
func TestCommands(t *testing.T) {
	for i, x := range []struct {
		c    api.Command
		want string
	}{
		{api.Command{}, "\x00\x00\x00\x00\x00\x00"},
		{api.Command{Kind: api.CmdOpen}, "\x01\x01\x00\x00\x00\x00\x00"},
		{api.Command{Kind: api.CmdRegister, Session: 1, Seq: 256, Subject: "g", Text: "a <-"}, "\x01\x02\x01\x01\x02\x01\x00\x01\x01g\x01\x04a <-\x00"},
		{api.Command{Kind: api.CmdRegister, Session: 1, Seq: 1}, "\x01\x02\x01\x01\x01\x01\x00\x00\x00"},
		{api.Command{Kind: api.CmdRetire, Session: 300, Seq: 2, Subject: "g h", Number: 7}, "\x01\x03\x02\x01\x2c\x01\x02\x01\x03g h\x00\x01\x07"},
		{api.Command{Kind: api.CmdMode, Session: 1, Seq: 2, Subject: "\x00\xff", Number: 2}, "\x01\x04\x01\x01\x01\x02\x01\x02\x00\xff\x00\x01\x02"},
		{api.Command{Kind: api.CmdFind, Session: 1, Seq: 1}, "\x01\x05\x01\x01\x01\x01\x00\x00\x00"},
		{api.Command{Kind: api.CmdFind, Session: 1, Seq: 1, Number: api.MaxInt}, "\x01\x05\x01\x01\x01\x01\x00\x00\x08\x7f\xff\xff\xff\xff\xff\xff\xff"},
		{api.Command{Kind: api.CmdFind, Session: api.MaxInt, Seq: api.MaxInt}, "\x01\x05\x08\x7f\xff\xff\xff\xff\xff\xff\xff\x08\x7f\xff\xff\xff\xff\xff\xff\xff\x00\x00\x00"},
		{api.Command{Kind: api.CmdRegister, Session: 1, Seq: 1, Subject: longest, Text: longest}, "\x01\x02\x01\x01\x01\x01\x02\x20\x00" + longest + "\x02\x20\x00" + longest + "\x00"},
	} {
		b, err := Bytes(x.c)
		if err != nil || string(b) != x.want {
			t.Errorf("%d: %.60q %v, not %.60q", i, b, err, x.want)
		}
		if c, err := Command(b); err != nil || c != x.c {
			t.Errorf("%d: %v", i, err)
		}
	}
}

// unlike are commands each of which may not be, as one thing of it is unlike what its kind may have.
func unlike() []api.Command {
	out := []api.Command{{Kind: -1}, {Kind: api.MinInt}, {Kind: 6}, {Kind: api.MaxInt}, {Kind: 6, Session: 1, Seq: 1, Subject: "g", Number: 1}}
	for _, kind := range []int{api.CmdNoop, api.CmdOpen} {
		for _, n := range []int{1, -1, api.MinInt, api.MaxInt} {
			out = append(out, api.Command{Kind: kind, Session: n}, api.Command{Kind: kind, Seq: n}, api.Command{Kind: kind, Number: n})
		}
		out = append(out, api.Command{Kind: kind, Subject: "g"}, api.Command{Kind: kind, Text: "x"})
	}
	for kind := api.CmdRegister; kind <= api.CmdFind; kind++ {
		c := api.Command{Kind: kind, Session: 1, Seq: 1, Subject: "g"}
		for _, n := range []int{0, -1, api.MinInt} {
			c.Session = n
			out = append(out, c)
			c.Session, c.Seq = 1, n
			out = append(out, c)
			c.Seq = 1
		}
		c.Subject = longest + "s"
		out = append(out, c)
		c.Subject, c.Number = "g", -1
		out = append(out, c)
		c.Number = api.MinInt
		out = append(out, c)
		if kind == api.CmdRegister {
			out = append(out, api.Command{Kind: kind, Session: 1, Seq: 1, Number: 1}, api.Command{Kind: kind, Session: 1, Seq: 1, Text: longest + "s"})
			continue
		}
		out = append(out, api.Command{Kind: kind, Session: 1, Seq: 1, Text: "x"}, api.Command{Kind: kind, Session: 1, Seq: 1, Text: longest + "s"})
	}
	return out
}

// P17.1: of a command that may not be there are no bytes, nor are its bytes taken, as far as there could be some.
func TestCommandsThatMayNotBe(t *testing.T) {
	for i, c := range unlike() {
		if b, err := Bytes(c); len(b) != 0 || err != api.ErrArg {
			t.Errorf("%d: %.20q %v", i, b, err)
		}
		b, isSome := plain(c)
		if back, err := Command(b); isSome && (back != api.Command{} || err != api.ErrCommand) {
			t.Errorf("%d: %v", i, err)
		}
	}
}

// plainNum is a number in bytes, written another way than layer 1 does.
func plainNum(n int) []byte {
	var digits []byte
	for ; n > 0; n /= 256 {
		digits = append([]byte{byte(n % 256)}, digits...)
	}
	return append([]byte{byte(len(digits))}, digits...)
}

// plainBlob is a blob in bytes.
func plainBlob(s string) []byte { return append(plainNum(len(s)), s...) }

// plain is a command in bytes, whether or not it may be; false, if a number of it is below 0.
func plain(c api.Command) ([]byte, bool) {
	if c.Kind < 0 || c.Session < 0 || c.Seq < 0 || c.Number < 0 {
		return nil, false
	}
	return joined(plainNum(c.Kind), plainNum(c.Session), plainNum(c.Seq), plainBlob(c.Subject), plainBlob(c.Text), plainNum(c.Number)), true
}

// joined are bytes one behind another.
func joined(l ...[]byte) []byte { return bytes.Join(l, nil) }

// refusesCommand holds Command to ErrCommand.
func refusesCommand(t *testing.T, b []byte) {
	t.Helper()
	if c, err := Command(b); c != (api.Command{}) || err != api.ErrCommand {
		t.Errorf("%.30q: %v %v", b, c, err)
	}
}

// P17.1: bytes that are cut off, or that go on, are no command.
func TestCutCommands(t *testing.T) {
	for _, c := range []api.Command{{}, {Kind: api.CmdOpen}, {Kind: api.CmdRegister, Session: 1, Seq: 256, Subject: "g", Text: "a <- ."}, {Kind: api.CmdFind, Session: 5, Seq: 1, Subject: "g", Number: 3}} {
		b := bytesOf(t, c)
		for end := range b {
			refusesCommand(t, b[:end])
		}
		for _, more := range []string{"\x00", "\x01\x01", "g"} {
			refusesCommand(t, append(bytes.Clone(b), more...))
		}
		refusesCommand(t, append(bytes.Clone(b), b...))
	}
	refusesCommand(t, []byte(strings.Repeat("\xff", 1<<20)))
	refusesCommand(t, make([]byte, 1<<20))
}

// P17.1: bytes are read one way: of whatever is taken the bytes are just those.
func TestCommandsOneWay(t *testing.T) {
	for _, s := range []string{
		"\x01\x00\x00\x00\x00\x00\x00",                             // 0 has no digits
		"\x01\x05\x02\x00\x01\x01\x01\x00\x00\x00",                 // a nought ahead
		"\x01\x05\x08\x80\x00\x00\x00\x00\x00\x00\x00\x01\x01\x00", // beyond MaxInt
		"\x01\x05\x09\x01",
		"\x01\x05\x01\x01\x01\x01\x01\x02g\x00\x00",
		"\x01\x05\x01\x01\x01\x01\x08\x7f\xff\xff\xff\xff\xff\xff\xff\x00",
	} {
		refusesCommand(t, []byte(s))
	}
	taken := 0
	for _, c := range []api.Command{{}, {Kind: api.CmdOpen}, {Kind: api.CmdRegister, Session: 1, Seq: 2, Subject: "g", Text: "ab"}, {Kind: api.CmdMode, Session: 5, Seq: 1, Subject: "g", Number: 3}} {
		b := bytesOf(t, c)
		for at := range b {
			for x := range 256 {
				changed := bytes.Clone(b)
				changed[at] = byte(x)
				got, err := Command(changed)
				if err != nil {
					refusesCommand(t, changed)
					continue
				}
				taken++
				if back, err := Bytes(got); err != nil || !bytes.Equal(back, changed) {
					t.Errorf("%q is taken, and written %q", changed, back)
				}
			}
		}
	}
	if taken < 1000 {
		t.Error(taken)
	}
}

// P17.1: replies in bytes, and back.
func TestReplies(t *testing.T) {
	for i, x := range []struct {
		r    api.Reply
		want string
	}{
		{api.Reply{}, "\x00\x00\x00"},
		{api.Reply{Number: 1}, "\x00\x01\x01\x00"},
		{api.Reply{Code: api.ErrGate}, "\x01\x4b\x00\x00"},
		{api.Reply{Number: 256, Text: "a <- .\n"}, "\x00\x02\x01\x00\x01\x07a <- .\n"},
		{api.Reply{Code: 1, Number: 2, Text: "\x00\xff"}, "\x01\x01\x01\x02\x01\x02\x00\xff"},
		{api.Reply{Code: api.MaxInt, Number: api.MaxInt}, "\x08\x7f\xff\xff\xff\xff\xff\xff\xff\x08\x7f\xff\xff\xff\xff\xff\xff\xff\x00"},
		{api.Reply{Text: longest}, "\x00\x00\x02\x20\x00" + longest},
	} {
		b, err := Answer(x.r)
		if err != nil || string(b) != x.want {
			t.Errorf("%d: %.60q %v, not %.60q", i, b, err, x.want)
		}
		if r, err := Reply(b); err != nil || r != x.r {
			t.Errorf("%d: %v", i, err)
		}
		for end := range min(len(b), 20) {
			refusesReply(t, b[:end])
		}
		refusesReply(t, append(bytes.Clone(b), 0))
		refusesReply(t, append(bytes.Clone(b), b...))
	}
}

// refusesReply holds Reply to ErrCommand.
func refusesReply(t *testing.T, b []byte) {
	t.Helper()
	if r, err := Reply(b); r != (api.Reply{}) || err != api.ErrCommand {
		t.Errorf("%.30q: %v %v", b, r, err)
	}
}

// P17.1: of a reply that may not be there are no bytes, nor are any taken that say it.
func TestRepliesThatMayNotBe(t *testing.T) {
	for i, r := range []api.Reply{{Code: -1}, {Code: api.MinInt}, {Number: -1}, {Number: api.MinInt, Text: "a"}, {Code: 1, Number: -1}, {Text: longest + "s"}} {
		if b, err := Answer(r); len(b) != 0 || err != api.ErrArg {
			t.Errorf("%d: %.20q %v", i, b, err)
		}
	}
	for _, b := range [][]byte{
		joined(plainNum(0), plainNum(0), plainBlob(longest+"s")),
		joined(plainNum(0), plainNum(0), plainBlob(strings.Repeat("s", api.MaxBlob))),
		joined(plainNum(0), plainNum(0), plainBlob(strings.Repeat("s", api.MaxBlob+1))),
		{8, 128, 0, 0, 0, 0, 0, 0, 0, 0, 0},
		{1, 0, 0, 0}, {9, 0, 0}, {0, 2, 0, 1, 0}, {0, 0, 1, 0}, nil,
	} {
		refusesReply(t, b)
	}
}

// FuzzBytes has bytes be a command's, and a reply's: P17.1.
func FuzzBytes(f *testing.F) {
	f.Add([]byte("\x01\x02\x01\x01\x02\x01\x00\x01\x01g\x01\x04a <-\x00"))
	f.Add([]byte("\x01\x05\x01\x01\x01\x01\x00\x00\x00"))
	f.Add([]byte("\x00\x02\x01\x00\x01\x07a <- .\n"))
	f.Fuzz(func(t *testing.T, b []byte) {
		if c, err := Command(b); err == nil {
			if back, isSome := plain(c); !isSome || !bytes.Equal(back, b) || fmt.Sprint(Bytes(c)) != fmt.Sprint(b, nil) {
				t.Errorf("%q is taken as %+v", b, c)
			}
		} else if c != (api.Command{}) || err != api.ErrCommand {
			t.Error(c, err)
		}
		if r, err := Reply(b); err == nil {
			if back, err := Answer(r); err != nil || !bytes.Equal(back, b) {
				t.Errorf("%q is taken as %+v", b, r)
			}
		} else if r != (api.Reply{}) || err != api.ErrCommand {
			t.Error(r, err)
		}
	})
}
