package disk

import (
	"testing"

	"grapevine/api"
)

// P13.3: what was cut off is no more written over, however much comes behind what stays.
func TestCutOff(t *testing.T) {
	for n := range 6 {
		d, _ := New(100)
		d.Append([]byte("abc"))
		d.Append([]byte("de"))
		before := d.kept
		if e := d.Cut(n); e != api.OK || cap(d.kept) != n {
			t.Errorf("cut to %d: %d, with room for %d behind", n, e, cap(d.kept)-n)
		}
		d.Append([]byte("x"))
		d.Append([]byte("yz"))
		if string(before) != "abcde" || string(d.kept) != "abcde"[:n]+"xyz" {
			t.Errorf("cut to %d: %q, and %q was cut off", n, d.kept, before)
		}
	}
}

// P13.2, P13.3: what a call does is done if the disk is alive, and then once; what it tells is told.
func TestIfAlive(t *testing.T) {
	d, _ := New(0)
	for _, want := range []api.Errno{api.OK, api.ErrArg, api.ErrFull, api.ErrDead} {
		done := 0
		do := func() api.Errno { done++; return want }
		if e := d.ifAlive(do); e != want || done != 1 {
			t.Errorf("%d: %d, done %d times", want, e, done)
		}
		d.dead = true
		if e := d.ifAlive(do); e != api.ErrDead || done != 1 {
			t.Errorf("dead: %d, done %d times", e, done)
		}
		d.dead = false
	}
}

// P13.2: a fuse is gone where it ended; one that didn't end is less by what was written.
func TestFuseGone(t *testing.T) {
	for fuse := range 6 {
		d, _ := New(10)
		d.Fuse(fuse)
		e := d.Append([]byte("abc"))
		if dead := fuse < 3; dead != (e == api.ErrDead) || dead && d.fuse != none || !dead && d.fuse != fuse-3 {
			t.Errorf("a fuse of %d: %d, then one of %d", fuse, e, d.fuse)
		}
	}
}
