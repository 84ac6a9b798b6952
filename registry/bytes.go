package registry

import (
	"muntin/api"
	"muntin/fields"
)

// Bytes is a command in bytes.
func Bytes(c api.Command) ([]byte, error) {
	if !mayBe(c) {
		return nil, api.ErrArg
	}
	var w fields.Writer
	w.Num(c.Kind)
	w.Num(c.Session)
	w.Num(c.Seq)
	w.Blob([]byte(c.Subject))
	w.Blob([]byte(c.Text))
	w.Num(c.Number)
	return w.Bytes()
}

// Command is the way back.
func Command(b []byte) (api.Command, error) {
	r := fields.Read(b)
	c := api.Command{Kind: r.Num(), Session: r.Num(), Seq: r.Num(), Subject: string(r.Blob()), Text: string(r.Blob()), Number: r.Num()}
	if r.End() != nil || !mayBe(c) {
		return api.Command{}, api.ErrCommand
	}
	return c, nil
}

// mayBe tells whether a command may be one.
func mayBe(c api.Command) bool {
	switch c.Kind {
	case api.CmdRegister:
		if c.Number != 0 || len(c.Text) > api.MaxSource {
			return false
		}
		// But for its text it is as those that have none.
		c.Text = ""
		fallthrough
	case api.CmdRetire, api.CmdMode, api.CmdFind:
		return c.Session >= 1 && c.Seq >= 1 && len(c.Subject) <= api.MaxSource && c.Text == "" && c.Number >= 0
	case api.CmdNoop, api.CmdOpen:
		return c == api.Command{Kind: c.Kind}
	}
	return false
}

// Answer is a reply in bytes.
func Answer(r api.Reply) ([]byte, error) {
	if !mayBeAnswered(r) {
		return nil, api.ErrArg
	}
	var w fields.Writer
	w.Num(int(r.Code))
	w.Num(r.Number)
	w.Blob([]byte(r.Text))
	return w.Bytes()
}

// Reply is the way back.
func Reply(b []byte) (api.Reply, error) {
	in := fields.Read(b)
	r := api.Reply{Code: api.Errno(in.Num()), Number: in.Num(), Text: string(in.Blob())}
	if in.End() != nil || !mayBeAnswered(r) {
		return api.Reply{}, api.ErrCommand
	}
	return r, nil
}

// mayBeAnswered tells whether a reply may be one.
func mayBeAnswered(r api.Reply) bool {
	return r.Code >= 0 && r.Number >= 0 && len(r.Text) <= api.MaxSource
}
