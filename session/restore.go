package session

import (
	"slices"

	"muntin/api"
)

// Restore is a table with these.
func Restore(l []api.Session, clock int) (*Table, error) {
	if clock < 0 || len(l) > api.MaxSessions || !mayStand(l, clock) {
		return nil, api.ErrArg
	}
	t := New()
	t.clock = clock
	for _, s := range l {
		t.sessions[s.Id] = copied(s)
	}
	return t, nil
}

// mayStand tells whether sessions may stand in one table, when its clock shows that.
func mayStand(l []api.Session, clock int) bool {
	var ids, useds []int
	for _, s := range l {
		if !mayBe(s, clock) {
			return false
		}
		ids, useds = append(ids, s.Id), append(useds, s.Used)
	}
	slices.Sort(useds)
	return rise(ids) && rise(useds)
}

// mayBe tells whether a session may be one, when the clock shows that.
func mayBe(s api.Session, clock int) bool {
	if s.Last == 0 && len(s.Reply) > 0 {
		return false
	}
	return s.Id >= 1 && s.Last >= 0 && s.Used >= 1 && s.Used <= clock && len(s.Reply) <= api.MaxReply
}

// rise tells whether each number is above the one ahead.
func rise(l []int) bool {
	for i := 1; i < len(l); i++ {
		if l[i] <= l[i-1] {
			return false
		}
	}
	return true
}
