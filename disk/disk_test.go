package disk_test

import (
	"bytes"
	"math"
	"strconv"
	"strings"
	"sync"
	"testing"

	"grapevine/api"
	"grapevine/disk"
)

// told is what a disk tells of itself.
type told struct {
	text       string
	size, left int
	dead       bool
}

// ask is what a disk tells, each thing asked alone.
func ask(d *disk.Disk) told {
	return told{text: string(d.Bytes()), size: d.Size(), left: d.Left(), dead: d.Dead()}
}

// model is a disk by what the document says of it. A fuse is as many letters as bytes are still written, behind a first one; an empty text is none.
type model struct {
	text string
	room int
	fuse string
	dead bool
}

func (m model) told() told {
	return told{text: m.text, size: len(m.text), left: m.room - len(m.text), dead: m.dead}
}

// put writes byte by byte, until the fuse has no more letters than the first one.
func (m model) put(b string) (model, api.Errno) {
	if m.dead {
		return m, api.ErrDead
	}
	if m.room < len(m.text)+len(b) {
		return m, api.ErrFull
	}
	for _, x := range []byte(b) {
		if m.fuse == "f" {
			m.fuse, m.dead = "", true
			return m, api.ErrDead
		}
		m.text += string([]byte{x})
		m.fuse = strings.TrimSuffix(m.fuse, "-")
	}
	return m, api.OK
}

func (m model) cut(n int) (model, api.Errno) {
	if m.dead {
		return m, api.ErrDead
	}
	for i := range len(m.text) + 1 {
		if i == n {
			m.text = m.text[:n]
			return m, api.OK
		}
	}
	return m, api.ErrArg
}

func (m model) fused(n int) model {
	m.fuse = ""
	if n > -1 {
		m.fuse = "f" + strings.Repeat("-", n)
	}
	return m
}

func (m model) start() model {
	m.fuse, m.dead = "", false
	return m
}

// step is one call, done to a disk, and to a model.
type step struct {
	name string
	do   func(d *disk.Disk) api.Errno
	want func(m model) (model, api.Errno)
}

func puts(b string) step {
	return step{"put " + b, func(d *disk.Disk) api.Errno { return d.Append([]byte(b)) }, func(m model) (model, api.Errno) { return m.put(b) }}
}

func cuts(n int) step {
	return step{"cut " + strconv.Itoa(n), func(d *disk.Disk) api.Errno { return d.Cut(n) }, func(m model) (model, api.Errno) { return m.cut(n) }}
}

func fuses(n int) step {
	return step{"fuse " + strconv.Itoa(n), func(d *disk.Disk) api.Errno { d.Fuse(n); return api.OK }, func(m model) (model, api.Errno) { return m.fused(n), api.OK }}
}

func starts() step {
	return step{"start", func(d *disk.Disk) api.Errno { d.Start(); return api.OK }, func(m model) (model, api.Errno) { return m.start(), api.OK }}
}

// steps are some of each kind, at their edges.
func steps() []step {
	return []step{
		puts(""), puts("a"), puts("bc"), puts("def"),
		cuts(-1), cuts(0), cuts(1), cuts(3),
		fuses(-1), fuses(0), fuses(1), fuses(2), fuses(9),
		starts(),
	}
}

// fresh is a disk with so much room, and its model.
func fresh(t *testing.T, room int) (*disk.Disk, model) {
	t.Helper()
	d, e := disk.New(room)
	if d == nil || e != api.OK {
		t.Fatalf("room %d: %v, %d", room, d, e)
	}
	return d, model{room: room}
}

// does does a step to a disk and its model, and holds what they tell against each other.
func does(t *testing.T, d *disk.Disk, m model, s step, trail string) model {
	t.Helper()
	next, want := s.want(m)
	if e := s.do(d); e != want || ask(d) != next.told() {
		t.Fatalf("room %d, behind %q: %s: %d, %+v, not %d, %+v", m.room, trail, s.name, e, ask(d), want, next.told())
	}
	return next
}

// burns does bytes one by one, so that the fuse, which nobody tells, is seen by when it ends; where all is full it is made empty.
func burns(t *testing.T, d *disk.Disk, m model, trail string) {
	t.Helper()
	for range 12 {
		m = does(t, d, m, puts("x"), trail+", then bytes one by one")
		if d.Left() == 0 {
			m = does(t, d, m, cuts(0), trail+", then bytes one by one")
		}
	}
}

// P13.1: the room is from 0 to MaxRoom; else there is no disk (R3). A new one has no bytes, and is alive.
func TestNew(t *testing.T) {
	if disk.MaxRoom != 16777216 {
		t.Errorf("room for %d at most", disk.MaxRoom)
	}
	for _, room := range []int{0, 1, 2, 255, 256, 65536, 1<<24 - 1, 1 << 24} {
		d, e := disk.New(room)
		if e != api.OK || ask(d) != (told{left: room}) {
			t.Errorf("room %d: %d, %+v", room, e, ask(d))
		}
	}
	for _, room := range []int{-1, -2, -1 << 24, math.MinInt, 1<<24 + 1, 1 << 25, 1 << 32, 1<<32 + 1, math.MaxInt} {
		if d, e := disk.New(room); d != nil || e != api.ErrArg {
			t.Errorf("room %d: %v, %d", room, d, e)
		}
	}
}

// P13.1, P13.2: all of the room is there, at once and byte by byte, and not a byte more; a new disk has no fuse.
func TestRoom(t *testing.T) {
	for room := range 40 {
		d, m := fresh(t, room)
		m = does(t, d, m, puts(strings.Repeat("t", room+1)), "")
		whole := d.Copy()
		does(t, whole, m, puts(strings.Repeat("t", room)), "")
		if whole.Append([]byte("t")) != api.ErrFull || whole.Append(nil) != api.OK {
			t.Errorf("room %d: at once, and then more", room)
		}
		for i := range room {
			m = does(t, d, m, puts("abc"[i%3:i%3+1]), "byte by byte")
		}
		m = does(t, d, m, puts("t"), "full")
		m = does(t, d, m, puts(""), "full")
		m = does(t, d, m, cuts(room/2), "full")
		does(t, d, m, puts(strings.Repeat("t", room-room/2)), "full, and cut")
	}
}

// P13.1, P13.2: MaxRoom bytes, in parts of many lengths, are kept as they are; a byte more isn't.
func TestMaxRoom(t *testing.T) {
	d, _ := disk.New(disk.MaxRoom)
	whole := make([]byte, disk.MaxRoom)
	for i := range whole {
		whole[i] = byte(i * i >> 7)
	}
	for from, n := 0, 1; from < len(whole); n = n*3 + 1 {
		end := min(from+n, len(whole))
		if e := d.Append(whole[from:end]); e != api.OK || d.Size() != end || d.Left() != len(whole)-end {
			t.Fatalf("from %d to %d: %d, size %d, left %d", from, end, e, d.Size(), d.Left())
		}
		from = end
	}
	if e := d.Append([]byte{1}); e != api.ErrFull || !bytes.Equal(d.Bytes(), whole) {
		t.Errorf("a byte more: %d, size %d", e, d.Size())
	}
	if e := d.Cut(1 << 23); e != api.OK || !bytes.Equal(d.Bytes(), whole[:1<<23]) {
		t.Errorf("cut: %d, size %d", e, d.Size())
	}
	d.Fuse(1 << 22)
	if e := d.Append(whole[1<<23:]); e != api.ErrDead || !bytes.Equal(d.Bytes(), whole[:3<<22]) || !d.Dead() {
		t.Errorf("a fuse: %d, size %d", e, d.Size())
	}
}

// The chapter's example; and what becomes of it then.
func TestExample(t *testing.T) {
	d, _ := disk.New(5)
	if e := d.Append([]byte("abc")); e != api.OK {
		t.Error(e)
	}
	d.Fuse(1)
	if e := d.Append([]byte("de")); e != api.ErrDead || string(d.Bytes()) != "abcd" || !d.Dead() || d.Left() != 1 {
		t.Errorf("%d, %+v", e, ask(d))
	}
	d.Start()
	if e := d.Append([]byte("ef")); e != api.ErrFull || string(d.Bytes()) != "abcd" || d.Dead() {
		t.Errorf("%d, %+v", e, ask(d))
	}
	if e := d.Append([]byte("e")); e != api.OK || string(d.Bytes()) != "abcde" {
		t.Errorf("%d, %+v", e, ask(d))
	}
}

// P13.2: each room, each fuse, with each number of bytes ahead, and behind: what is told, and what is there.
func TestAppend(t *testing.T) {
	const text = "abcdefghij"
	for room := range 7 {
		for fuse := -2; fuse < 9; fuse++ {
			for ahead := range room + 1 {
				for n := range 9 {
					d, m := fresh(t, room)
					m = does(t, d, m, puts(text[:ahead]), "")
					m = does(t, d, m, fuses(fuse), text[:ahead])
					trail := text[:ahead] + ", a fuse of " + strconv.Itoa(fuse)
					m = does(t, d, m, puts(text[ahead:min(ahead+n, 10)]), trail)
					burns(t, d, m, trail+", more")
				}
			}
		}
	}
}

// P13.2: where several errors apply, the first one is told (R2): dead ahead of full, full ahead of a fuse, which then stays.
func TestAppendFirst(t *testing.T) {
	d, _ := disk.New(3)
	d.Append([]byte("ab"))
	d.Fuse(0)
	if e := d.Append([]byte("xy")); e != api.ErrFull || ask(d) != (told{"ab", 2, 1, false}) {
		t.Errorf("full, and a fuse: %d, %+v", e, ask(d))
	}
	if e := d.Append(nil); e != api.OK || d.Dead() {
		t.Errorf("no bytes, and a fuse of 0: %d, %+v", e, ask(d))
	}
	if e := d.Append([]byte("c")); e != api.ErrDead || ask(d) != (told{"ab", 2, 1, true}) {
		t.Errorf("a fuse of 0: %d, %+v", e, ask(d))
	}
	for _, b := range []string{"", "c", "xy", "long enough"} {
		if e := d.Append([]byte(b)); e != api.ErrDead || ask(d) != (told{"ab", 2, 1, true}) {
			t.Errorf("dead, %q: %d, %+v", b, e, ask(d))
		}
	}
}

// P13.3: each size, and each place; a disk that is dead isn't cut, whatever the number (R2).
func TestCut(t *testing.T) {
	const text = "abcde"
	wrong := []int{-1, -2, math.MinInt, 1 << 32, 1 << 33, math.MaxInt}
	for size := range len(text) + 1 {
		for n := -1; n < 8; n++ {
			d, m := fresh(t, 5)
			m = does(t, d, m, puts(text[:size]), "")
			m = does(t, d, m, cuts(n), text[:size])
			burns(t, d, m, text[:size]+", cut to "+strconv.Itoa(n))
		}
		d, m := fresh(t, 6)
		m = does(t, d, m, puts(text[:size]), "")
		for _, n := range wrong {
			m = does(t, d, m, cuts(n), text[:size])
		}
		m = does(t, d, m, fuses(0), text[:size])
		m = does(t, d, m, puts("x"), text[:size]+", a fuse")
		for n := -1; n < 8; n++ {
			m = does(t, d, m, cuts(n), text[:size]+", dead")
		}
		for _, n := range wrong {
			m = does(t, d, m, cuts(n), text[:size]+", dead")
		}
	}
}

// P13.3: a cut leaves the fuse as it is.
func TestCutFuse(t *testing.T) {
	d, _ := disk.New(10)
	d.Append([]byte("abcdef"))
	d.Fuse(2)
	d.Cut(1)
	d.Append([]byte("x"))
	d.Cut(0)
	if e := d.Append([]byte("yz")); e != api.ErrDead || ask(d) != (told{"y", 1, 9, true}) {
		t.Errorf("%d, %+v", e, ask(d))
	}
}

// P13.3: any number may be a fuse: one below 0 is none, in place of another one too, and the greatest one never ends here.
func TestFuse(t *testing.T) {
	for _, n := range []int{-1, -2, -100, math.MinInt, math.MinInt + 1, math.MaxInt, 1 << 32, 1 << 24, 100} {
		d, _ := disk.New(100)
		d.Fuse(0)
		d.Fuse(n)
		for i := range 10 {
			if e := d.Append(bytes.Repeat([]byte("t"), 10)); e != api.OK || d.Size() != 10*i+10 || d.Dead() {
				t.Fatalf("a fuse of %d: %d, %+v", n, e, ask(d))
			}
		}
	}
	d, _ := disk.New(100)
	for _, n := range []int{5, -1, 7, 3} {
		d.Fuse(n)
	}
	if e := d.Append([]byte("abcdef")); e != api.ErrDead || string(d.Bytes()) != "abc" {
		t.Errorf("the last one of several: %d, %+v", e, ask(d))
	}
}

// P13.3: who started is alive, and has no fuse, whether it was dead or not; a fuse doesn't have a dead one be alive.
func TestStart(t *testing.T) {
	for _, dead := range []bool{false, true} {
		for fuse := -1; fuse < 4; fuse++ {
			d, m := fresh(t, 9)
			if dead {
				m = does(t, d, m, fuses(1), "")
				m = does(t, d, m, puts("ab"), "a fuse")
			}
			m = does(t, d, m, fuses(fuse), "")
			if d.Dead() != dead {
				t.Fatalf("a fuse of %d: dead is %v", fuse, !dead)
			}
			m = does(t, d, m, starts(), "a fuse")
			m = does(t, d, m, puts("cdefg"), "a fuse, started")
			m = does(t, d, m, starts(), "started, and more")
			burns(t, d, m, "started twice")
		}
	}
}

// P13.1 to P13.4: all rows of four steps, done to disks of some rooms; at the end the fuse is seen.
func TestSteps(t *testing.T) {
	all := steps()
	rows := len(all) * len(all) * len(all) * len(all)
	for _, room := range []int{0, 2, 3, 6} {
		for row := range rows {
			d, m := fresh(t, room)
			trail := ""
			for rest := row + rows; rest > 1; rest /= len(all) {
				s := all[rest%len(all)]
				m = does(t, d, m, s, trail)
				trail += s.name + ", "
			}
			burns(t, d, m, trail)
		}
	}
}

// P13.1: the same by copies: each goes on by itself, and what it is the copy of stays, also where that was cut, or is dead.
func TestCopies(t *testing.T) {
	all := steps()
	var walk func(d *disk.Disk, m model, trail string, deep int)
	walk = func(d *disk.Disk, m model, trail string, deep int) {
		if deep == 0 {
			return
		}
		for _, s := range all {
			c := d.Copy()
			if ask(c) != m.told() {
				t.Fatalf("behind %q: a copy is %+v, not %+v", trail, ask(c), m.told())
			}
			next := does(t, c, m, s, trail)
			walk(c, next, trail+s.name+", ", deep-1)
			burns(t, c, next, trail+s.name)
			if ask(d) != m.told() {
				t.Fatalf("behind %q: %s was done to a copy: %+v, not %+v", trail, s.name, ask(d), m.told())
			}
		}
		burns(t, d.Copy(), m, trail)
	}
	d, m := fresh(t, 4)
	walk(d, m, "", 4)
}

// P13.1: two that were one write each its own behind the same bytes, the first one first, or the copy.
func TestCopyBoth(t *testing.T) {
	for n := range 20 {
		// A cut to -1 is none: the bytes' memory may then have room behind them.
		for cut := -1; cut <= n; cut++ {
			d, _ := disk.New(100)
			d.Append(bytes.Repeat([]byte("t"), n))
			d.Cut(cut)
			c := d.Copy()
			front := string(d.Bytes())
			for i := range 5 {
				d.Append([]byte("a"))
				c.Append([]byte("bc"))
				want, other := front+strings.Repeat("a", i+1), front+strings.Repeat("bc", i+1)
				if string(d.Bytes()) != want || string(c.Bytes()) != other || d.Left() != 100-len(want) || c.Left() != 100-len(other) {
					t.Fatalf("%d bytes, cut to %d: %q, and the copy %q", n, cut, d.Bytes(), c.Bytes())
				}
			}
		}
	}
}

// P13.4: wherever the last Append ends, what was written ahead stays, and a front of what was being written is there.
func TestTorn(t *testing.T) {
	parts := []string{"first", "", "second one", "3", "and a last one that is longer"}
	ahead := ""
	d, _ := disk.New(60)
	for i, p := range parts {
		for fuse := range len(p) {
			c := d.Copy()
			c.Fuse(fuse)
			if e := c.Append([]byte(p)); e != api.ErrDead || string(c.Bytes()) != ahead+p[:fuse] {
				t.Errorf("part %d, a fuse of %d: %d, %q", i, fuse, e, c.Bytes())
			}
			c.Start()
			if string(c.Bytes()) != ahead+p[:fuse] || c.Cut(len(ahead)) != api.OK || c.Append([]byte(p)) != api.OK || string(c.Bytes()) != ahead+p {
				t.Errorf("part %d, a fuse of %d, then again: %q", i, fuse, c.Bytes())
			}
		}
		if e := d.Append([]byte(p)); e != api.OK {
			t.Errorf("part %d: %d", i, e)
		}
		ahead += p
		if e := d.Append(make([]byte, 61-len(ahead))); e != api.ErrFull || string(d.Bytes()) != ahead {
			t.Errorf("part %d, then too many: %d, %q", i, e, d.Bytes())
		}
	}
}

// P13.4: one fuse over several calls ends within the one in which the bytes end, wherever that is.
func TestTornLater(t *testing.T) {
	parts := []string{"ab", "", "c", "def", "gh"}
	whole := strings.Join(parts, "")
	for fuse := range len(whole) + 2 {
		d, _ := disk.New(len(whole))
		d.Fuse(fuse)
		end := 0
		for _, p := range parts {
			end += len(p)
			dead := fuse < end
			e := d.Append([]byte(p))
			if (e == api.ErrDead) != dead || (e == api.OK) == dead || d.Dead() != dead || string(d.Bytes()) != whole[:min(fuse, end)] {
				t.Errorf("a fuse of %d, %q: %d, %q", fuse, p, e, d.Bytes())
			}
		}
	}
}

// R4: no list and an empty one are the same, with a fuse of 0, full and dead too; no bytes are told by a list without any.
func TestNil(t *testing.T) {
	for _, b := range [][]byte{nil, {}, make([]byte, 0, 9)} {
		d, _ := disk.New(0)
		if len(d.Bytes()) != 0 || d.Append(b) != api.OK || len(d.Bytes()) != 0 {
			t.Errorf("%+v", ask(d))
		}
		d.Fuse(0)
		if d.Append(b) != api.OK || d.Dead() || d.Append(b) != api.OK {
			t.Errorf("a fuse of 0: %+v", ask(d))
		}
		d, _ = disk.New(1)
		d.Fuse(0)
		d.Append([]byte("t"))
		if d.Append(b) != api.ErrDead {
			t.Errorf("dead: %+v", ask(d))
		}
	}
}

// R5: what is handed in is not changed, nor what stands behind it, and it isn't kept; what is told is memory of its own.
func TestMemory(t *testing.T) {
	for fuse := -1; fuse < 7; fuse++ {
		row := []byte("abcdefgh")
		d, _ := disk.New(100)
		d.Fuse(fuse)
		d.Append(row[:4])
		d.Append([]byte("xyz"))
		if string(row) != "abcdefgh" {
			t.Fatalf("a fuse of %d: %q was handed in, and is changed", fuse, row)
		}
		before := ask(d)
		c := d.Copy()
		clear(row)
		for _, b := range [][]byte{d.Bytes(), c.Bytes(), d.Copy().Bytes()} {
			clear(b)
			_ = append(b, "more behind it"...)
		}
		if ask(d) != before || ask(c) != before {
			t.Errorf("a fuse of %d: %+v, a copy %+v, not %+v", fuse, ask(d), ask(c), before)
		}
		b := d.Bytes()
		d.Start()
		d.Cut(0)
		d.Append([]byte("0123456"))
		if string(b) != before.text {
			t.Errorf("a fuse of %d: %q was told, and is %q", fuse, before.text, b)
		}
	}
}

// R5: what a disk tells is appended to itself, and to another one.
func TestOwnBytes(t *testing.T) {
	d, _ := disk.New(64)
	c, _ := disk.New(64)
	d.Append([]byte("ab"))
	for i := range 5 {
		if d.Append(d.Bytes()) != api.OK || c.Append(d.Bytes()[:1]) != api.OK || string(d.Bytes()) != strings.Repeat("ab", 2<<i) {
			t.Fatalf("%d times: %q", i, d.Bytes())
		}
	}
	if string(c.Bytes()) != "aaaaa" || d.Append(d.Bytes()) != api.ErrFull {
		t.Errorf("%q, %q", d.Bytes(), c.Bytes())
	}
}

// R6: a disk hangs on what was done with it, not on another one; who only asks changes nothing, several at that time either.
func TestAlone(t *testing.T) {
	d, m := fresh(t, 9)
	other, _ := disk.New(9)
	for _, s := range []step{puts("abc"), fuses(3), puts("de"), cuts(4), puts("fg")} {
		other.Fuse(0)
		other.Append([]byte("t"))
		m = does(t, d, m, s, "")
		other.Start()
		other.Append([]byte("t"))
		other.Cut(0)
		if ask(d) != m.told() {
			t.Errorf("%s: %+v, not %+v", s.name, ask(d), m.told())
		}
	}
	var all sync.WaitGroup
	for range 8 {
		all.Go(func() {
			for range 50 {
				if ask(d) != m.told() || ask(d.Copy()) != m.told() {
					t.Errorf("%+v, not %+v", ask(d), m.told())
				}
			}
		})
	}
	all.Wait()
}
