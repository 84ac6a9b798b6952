package wal

import (
	"slices"
	"strconv"
	"strings"

	"muntin/api"
	"muntin/disk"
	"muntin/wire"
)

// The names of files: a word and a number. A log isn't opened from numbers that are near the greatest one, so that none runs out.
const (
	word       = "log"
	mostNumber = 999999999
	mostOpened = 100000000
)

// nameOf is the name of the file of a number.
func nameOf(number int) string { return word + strconv.Itoa(number) }

// numberOf is the number of a file of the log; 0, if the name is another one.
func numberOf(name string) int {
	n, err := strconv.Atoi(strings.TrimPrefix(name, word))
	if err != nil || n < 1 || n > mostNumber || name != nameOf(n) {
		return 0
	}
	return n
}

// file is one of the log, as it stands on the disk.
type file struct {
	number int
	bytes  []byte
}

// filesOf are the log's files of a disk, by rising numbers.
func filesOf(d *disk.Disk) []file {
	var out []file
	for _, f := range d.Files() {
		if n := numberOf(f.Name); n > 0 {
			out = append(out, file{n, f.Bytes})
		}
	}
	slices.SortFunc(out, func(a, b file) int { return a.number - b.number })
	return out
}

// part is what is read of a file: its records, the size of their frames, and whether something stands behind these.
type part struct {
	number int
	rows   []record
	size   int
	torn   bool
}

// read reads a file.
func (f file) read() (part, error) {
	bodies, size, err := wire.Scan(f.bytes)
	out := part{number: f.number, size: size, torn: err != nil}
	for _, p := range bodies {
		r, err := recordOf(p)
		if err != nil {
			return part{}, err
		}
		out.rows = append(out.rows, r)
	}
	return out, nil
}

// partsOf reads files that may stand one behind another.
func partsOf(files []file) ([]part, error) {
	var out []part
	for i, f := range files {
		p, err := f.read()
		if err != nil || f.number > mostOpened {
			return nil, api.ErrLog
		}
		if i > 0 && (f.number != out[i-1].number+1 || out[i-1].torn) {
			return nil, api.ErrLog
		}
		out = append(out, p)
	}
	return out, nil
}

// beginning is where the last part stands that begins with a base; -1, if none does.
func beginning(parts []part) int {
	i := len(parts) - 1
	for i >= 0 && !parts[i].begins() {
		i--
	}
	return i
}

// begins tells whether a part begins with a base.
func (p part) begins() bool { return len(p.rows) > 0 && p.rows[0].kind == baseKind }

// done is what comes of all records of parts, of which the very first one is a base.
func done(parts []part) (held, error) {
	var out held
	for i, p := range parts {
		for j, r := range p.rows {
			s := out.span()
			if r.fits(&s) != nil || r.kind == baseKind && i+j > 0 {
				return held{}, api.ErrLog
			}
			r.do(&out)
		}
	}
	return out, nil
}

// mend leaves of the files those that the log needs, wholly there.
func mend(d *disk.Disk, ahead []part, last part) error {
	var acts []func() error
	for _, p := range ahead {
		acts = append(acts, removal(d, p.number))
	}
	name := nameOf(last.number)
	switch {
	case last.torn:
		acts = append(acts, func() error { return d.Cut(name, last.size) })
		fallthrough // what a cut leaves isn't sure by that
	default:
		acts = append(acts, func() error { return d.Sync(name) })
	}
	return inTurn(acts...)
}

// removal is the act that removes a file.
func removal(d *disk.Disk, number int) func() error {
	return func() error { return d.Remove(nameOf(number)) }
}

// inTurn does acts one behind another, up to the first that tells an error.
func inTurn(acts ...func() error) error {
	for _, act := range acts {
		if err := act(); err != nil {
			return err
		}
	}
	return nil
}
