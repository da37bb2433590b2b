package disk

import "sleuth/api"

// Limit sets the number of operations before a failure.
func (d *Disk) Limit(operations int) {
	if d != nil {
		d.hasLimit, d.left = true, max(operations, 0)
	}
}

// operate counts an operation, or makes the disk go down if the limit is reached.
func (d *Disk) operate() api.Errno {
	switch {
	case !d.hasLimit:
		return api.OK
	case d.left == 0:
		d.Crash()
		return api.ErrCrash
	}
	d.left--
	return api.OK
}

// Crash is a failure.
func (d *Disk) Crash() {
	if d != nil {
		d.isDown = true
	}
}

// Down reports whether there was a failure.
func (d *Disk) Down() bool { return d != nil && d.isDown }

// Start ends a failure. The script says what survives of the unsynced bytes of each file.
func (d *Disk) Start(script []int) {
	if !d.Down() {
		return
	}
	for _, name := range d.names() {
		f := d.files[name]
		if !f.isDurable {
			delete(d.files, name)
			continue
		}
		if unsynced := len(f.data) - f.synced; unsynced > 0 {
			choice := 0
			if len(script) > 0 {
				choice, script = script[0], script[1:]
			}
			f.synced += remainder(choice, unsynced+1)
			f.data = f.data[:f.synced]
			d.put(name, f)
		}
	}
	d.isDown, d.hasLimit, d.left = false, false, 0
}

// remainder returns the remainder of a division by a positive number. It is not negative.
func remainder(n, by int) int { return (n%by + by) % by }
