package disk

import "muntin/api"

// Arm lets an act be cut off.
func (d *Disk) Arm(acts, part int) {
	d.armed, d.ahead, d.part = acts >= 0, acts, part
}

// Down tells whether the power is off.
func (d *Disk) Down() bool { return d.down }

// Start lets the power come back.
func (d *Disk) Start(keep []int) {
	for i, name := range d.names() {
		f := d.files[name]
		kept := f.sure
		if i < len(keep) {
			kept += modulo(keep[i], len(f.bytes)-f.sure+1)
		}
		f.cut(kept)
		f.sure = kept
	}
	d.down, d.armed = false, false
}

// act does an act of so many steps: all of them, or the first ones, if the power goes in it.
func (d *Disk) act(steps int, do func(n int)) error {
	if d.armed && d.ahead == 0 {
		do(modulo(d.part, steps+1))
		d.down, d.armed = true, false
		return api.ErrDown
	}
	if d.armed {
		d.ahead--
	}
	do(steps)
	return nil
}

// wholly is what an act of one step does: that is done, or nothing is. So it is done if the part is odd.
func wholly(do func()) func(n int) {
	return func(n int) {
		if n == 1 {
			do()
		}
	}
}

// modulo is n modulo k, from 0 on.
func modulo(n, k int) int { return (n%k + k) % k }
