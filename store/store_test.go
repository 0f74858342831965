package store_test

import (
	"bytes"
	"crypto/sha256"
	"encoding/binary"
	"runtime"
	"slices"
	"strconv"
	"strings"
	"sync"
	"testing"

	"grapevine/api"
	"grapevine/disk"
	"grapevine/store"
)

// name is a text's id, by another one's SHA-256.
func name(s string) api.Id {
	sum := sha256.Sum256([]byte(s))
	return api.Id(sum[:])
}

// rec is an object's record.
func rec(s string) string {
	return string(binary.AppendUvarint(nil, uint64(len(s)))) + s + string(name(s)[:4])
}

// recs are objects' records, one behind the other.
func recs(l ...string) string {
	out := ""
	for _, s := range l {
		out += rec(s)
	}
	return out
}

// length is the number with which bytes begin, as the document tells it: the number, and how many bytes it has; ErrShort stands for one that isn't whole.
func length(b string) (uint64, int, api.Errno) {
	high := 0
	for high < len(b) && high < 10 && b[high] >= 128 {
		high++
	}
	if high == 10 {
		return 0, 0, api.ErrForm
	}
	if high == len(b) {
		return 0, 0, api.ErrShort
	}
	n, many := binary.Uvarint([]byte(b))
	// A number has one form: the one that it is told by.
	if many != high+1 || string(binary.AppendUvarint(nil, n)) != b[:many] {
		return 0, 0, api.ErrForm
	}
	return n, many, api.OK
}

// front is the object with which bytes begin, as the document tells it, and how many bytes its record has; ErrShort stands for a torn one.
func front(b string) (string, int, api.Errno) {
	n, at, fault := length(b)
	if fault != api.OK {
		return "", 0, fault
	}
	if n > 131072 {
		return "", 0, api.ErrLong
	}
	if uint64(len(b)-at) < n+4 {
		return "", 0, api.ErrShort
	}
	end := at + int(n)
	if x := sha256.Sum256([]byte(b[at:end])); string(x[:4]) != b[end:end+4] {
		return "", 0, api.ErrSum
	}
	return b[at:end], end + 4, api.OK
}

// told is what Open makes of bytes, as the document tells it: the objects, how many bytes stay, and the error.
func told(b string) ([]string, int, api.Errno) {
	var out []string
	for at := 0; at < len(b); {
		s, many, fault := front(b[at:])
		if fault == api.ErrShort {
			return out, at, api.OK
		}
		if fault == api.OK && slices.Contains(out, s) {
			fault = api.ErrForm
		}
		if fault != api.OK {
			return nil, len(b), fault
		}
		out = append(out, s)
		at += many
	}
	return out, len(b), api.OK
}

// full is a disk with bytes, and room for more.
func full(t *testing.T, b string, more int) *disk.Disk {
	t.Helper()
	d, e := disk.New(len(b) + more)
	if e != api.OK || d.Append([]byte(b)) != api.OK {
		t.Fatalf("no disk of %d bytes", len(b))
	}
	return d
}

// opened is a store of a disk that has to have one.
func opened(t *testing.T, d *disk.Disk) *store.Store {
	t.Helper()
	s, e := store.Open(d)
	if s == nil || e != api.OK {
		t.Fatalf("%.99x: %d", d.Bytes(), e)
	}
	return s
}

// holds holds what a store tells against the objects that it should have, in their order.
func holds(t *testing.T, s *store.Store, want []string, what string) {
	t.Helper()
	var ids []api.Id
	for i, x := range want {
		id := name(x)
		ids = append(ids, id)
		if b, ok := s.Get(id); !ok || string(b) != x || !s.Has(id) {
			t.Fatalf("%s: object %d, %.99q: %.99q, %v", what, i, x, b, ok)
		}
	}
	if got := s.Ids(); !slices.Equal(got, ids) || s.Many() != len(want) {
		t.Fatalf("%s: %d ids, many %d, not %d, or not in their order", what, len(got), s.Many(), len(want))
	}
	for _, id := range []api.Id{"", "?", name("\x00nobody put this"), api.Id(strings.Repeat("\x00", 32))} {
		if b, ok := s.Get(id); ok || len(b) != 0 || s.Has(id) {
			t.Fatalf("%s: %x: %q, %v", what, id, b, ok)
		}
	}
}

// opens holds what Open makes of bytes against what the document tells: twice, and with a fuse that stays.
func opens(t *testing.T, b string) {
	t.Helper()
	want, size, fault := told(b)
	d := full(t, b, 3)
	d.Fuse(1)
	s, e := store.Open(d)
	if e != fault || (s == nil) != (e != api.OK) || string(d.Bytes()) != b[:size] || d.Dead() {
		t.Fatalf("%.99x: %d, size %d, not %d, size %d", b, e, d.Size(), fault, size)
	}
	if e != api.OK {
		if _, e := store.Open(d); e != fault || string(d.Bytes()) != b {
			t.Fatalf("%.99x: the second time: %d, size %d", b, e, d.Size())
		}
		return
	}
	holds(t, s, want, "opened")
	holds(t, opened(t, d), want, "opened twice")
	if d.Size() != size || d.Append([]byte("ab")) != api.ErrDead || d.Size() != size+1 {
		t.Fatalf("%.99x: opened twice: size %d, or another fuse", b, d.Size())
	}
}

// puts puts an object, and holds what is told, and what stands on the disk then, against the document.
func puts(t *testing.T, s *store.Store, d *disk.Disk, x string) {
	t.Helper()
	before := string(d.Bytes())
	if !s.Has(name(x)) {
		before += rec(x)
	}
	if id, e := s.Put([]byte(x)); id != name(x) || e != api.OK || string(d.Bytes()) != before {
		t.Fatalf("%.99q: %x, %d", x, id, e)
	}
}

// fails puts an object that can't be, and holds what is told against an error, with no id (R3), and nothing done.
func fails(t *testing.T, s *store.Store, x string, want api.Errno) {
	t.Helper()
	has, many := s.Has(name(x)), s.Many()
	if id, e := s.Put([]byte(x)); id != "" || e != want || s.Has(name(x)) != has || s.Many() != many {
		t.Fatalf("%.99q: %x, %d, not %d; many %d, not %d", x, id, e, want, s.Many(), many)
	}
}

// some are objects that are unlike each other, of as many bytes as told.
func some(sizes ...int) []string {
	var out []string
	for i, n := range sizes {
		out = append(out, strings.Repeat(strconv.Itoa(i%10), n))
	}
	return out
}

// The chapter's example.
func TestExample(t *testing.T) {
	d, _ := disk.New(8)
	s := opened(t, d)
	id, e := s.Put([]byte("abc"))
	if e != api.OK || id != name("abc") || string(d.Bytes()) != "\x03abc\xba\x78\x16\xbf" {
		t.Errorf("%x, %d, %x", id, e, d.Bytes())
	}
	holds(t, opened(t, d), []string{"abc"}, "opened again")
}

// P14.1: what Open makes of bytes, written out: how many objects, how many bytes stay, and the error.
func TestOpenKnown(t *testing.T) {
	one, two, none := rec("abc"), rec("de"), rec("")
	nine := strings.Repeat("\x80", 9)
	long := strings.Repeat("x", 131072)
	for i, x := range []struct {
		b          string
		fault      api.Errno
		many, size int
	}{
		// Whole ones.
		{"", api.OK, 0, 0}, {one, api.OK, 1, 8}, {none, api.OK, 1, 5}, {one + two, api.OK, 2, 15}, {two + none + one, api.OK, 3, 20},
		{rec(long), api.OK, 1, 131079}, {rec(long) + one, api.OK, 2, 131087},
		// The number isn't whole.
		{"\x80", api.OK, 0, 0}, {"\xff", api.OK, 0, 0}, {nine, api.OK, 0, 0}, {one + nine, api.OK, 1, 8}, {one + "\xff\xff", api.OK, 1, 8},
		// There are fewer bytes behind it than that, and 4.
		{"\x00", api.OK, 0, 0}, {none[:4], api.OK, 0, 0}, {"\x00wro", api.OK, 0, 0}, {one[:7], api.OK, 0, 0}, {one + two + "\x7f", api.OK, 2, 15}, {one + "\x03abcwro", api.OK, 1, 8},
		{rec(long)[:131078], api.OK, 0, 0}, {one + rec(long)[:131075], api.OK, 1, 8}, {"\x80\x80\x08", api.OK, 0, 0}, {"\x80\x80\x08" + one, api.OK, 0, 0},
		// What is torn is torn, also if there is such an object.
		{one + one[:7], api.OK, 1, 8}, {none + none[:4], api.OK, 1, 5},
		// No form of a number.
		{nine + "\x80", api.ErrForm, 0, 10}, {nine + "\x80" + one, api.ErrForm, 0, 18}, {"\x80\x00", api.ErrForm, 0, 2}, {"\x80\x00" + one, api.ErrForm, 0, 10}, {"\x83\x00abc\xba\x78\x16\xbf", api.ErrForm, 0, 9},
		{nine + "\x02", api.ErrForm, 0, 10}, {nine + "\x00", api.ErrForm, 0, 10}, {one + "\x80\x00", api.ErrForm, 0, 10}, {one + nine + "\xff", api.ErrForm, 0, 18},
		// Above MaxObject, however few bytes are behind it.
		{"\x81\x80\x08", api.ErrLong, 0, 3}, {"\x81\x80\x08" + long + "x", api.ErrLong, 0, 131076}, {rec(long + "x"), api.ErrLong, 0, 131080}, {nine + "\x01", api.ErrLong, 0, 10}, {strings.Repeat("\xff", 9) + "\x01", api.ErrLong, 0, 10},
		{"\xff\xff\xff\xff\xff\xff\xff\xff\x7f", api.ErrLong, 0, 9}, {"\xfc\xff\xff\xff\xff\xff\xff\xff\xff\x01", api.ErrLong, 0, 10}, {"\x80\x80\x80\x80\x10", api.ErrLong, 0, 5}, {"\x83\x80\x80\x80\x10abc\xba\x78\x16\xbf", api.ErrLong, 0, 12}, {one + "\x81\x80\x08", api.ErrLong, 0, 11},
		// Not the digest's.
		{one[:7] + "\x00", api.ErrSum, 0, 8}, {"\x03abd" + one[4:], api.ErrSum, 0, 8}, {"\x00\x00\x00\x00\x00", api.ErrSum, 0, 5}, {one + "\x00\xe3\xb0\xc4\x43", api.ErrSum, 0, 13}, {one[:7] + "\x00" + two, api.ErrSum, 0, 15},
		// There ahead of it; wrong in another way, it is told so.
		{one + one, api.ErrForm, 0, 16}, {none + none, api.ErrForm, 0, 10}, {one + two + one, api.ErrForm, 0, 23}, {two + one + one + two, api.ErrForm, 0, 30}, {one + one[:7] + "\x00", api.ErrSum, 0, 16},
		// The first fault is told; what is torn behind it stays.
		{one + one + one[:7] + "\x00", api.ErrForm, 0, 24}, {one[:7] + "\x00" + one[:7], api.ErrSum, 0, 15}, {"\x80\x00" + "\x81\x80\x08", api.ErrForm, 0, 5}, {"\x81\x80\x08\x80\x00", api.ErrLong, 0, 5}, {one + one + "\x80", api.ErrForm, 0, 17},
	} {
		d := full(t, x.b, 0)
		s, e := store.Open(d)
		if e != x.fault || (s == nil) != (e != api.OK) || string(d.Bytes()) != x.b[:x.size] || s != nil && s.Many() != x.many {
			t.Errorf("%d, %.99x: %d, size %d", i, x.b, e, d.Size())
		}
		opens(t, x.b)
	}
}

// P14.1: all bytes of up to two, and rows of those at edges, also behind a whole record.
func TestOpenShort(t *testing.T) {
	opens(t, "")
	for x := range 256 {
		opens(t, string([]byte{byte(x)}))
		for y := range 256 {
			opens(t, string([]byte{byte(x), byte(y)}))
		}
	}
	edges := []byte{0, 1, 2, 7, 8, 127, 128, 129, 255}
	for _, ahead := range []string{"", rec("a")} {
		for _, x := range edges {
			for many := range 12 {
				row := strings.Repeat(string([]byte{x}), many)
				for _, y := range edges {
					for _, z := range edges {
						opens(t, ahead+row+string([]byte{y, z}))
					}
				}
			}
		}
	}
}

// P14.1: each front of some records, and each byte of theirs in place of another one, one away, and one more.
func TestOpenSpoilt(t *testing.T) {
	b := recs("abc", "", "\x01\xd2", strings.Repeat("l", 130), "z")
	for at := range len(b) + 1 {
		opens(t, b[:at])
		opens(t, b[:at]+b)
		for x := range 256 {
			opens(t, b[:at]+string([]byte{byte(x)})+b[at:])
			if at < len(b) {
				opens(t, b[:at]+string([]byte{byte(x)})+b[at+1:])
			}
		}
		if at < len(b) {
			opens(t, b[:at]+b[at+1:])
		}
	}
}

// P14.1: each of the four bytes of the digest counts, and each bit, and nothing behind them does.
func TestOpenSum(t *testing.T) {
	for _, x := range append(some(0, 1, 2, 55, 56, 64, 127, 128, 1000), "abc") {
		b := rec(x)
		for bit := range 32 {
			bad := []byte(b)
			bad[len(b)-4+bit/8] ^= 1 << (bit % 8)
			if s, e := store.Open(full(t, string(bad), 0)); s != nil || e != api.ErrSum {
				t.Errorf("%.99q, bit %d: %d", x, bit, e)
			}
		}
		opens(t, b)
	}
}

// P14.1: dead comes ahead of whatever the bytes are (R2), and nothing is cut off.
func TestOpenDead(t *testing.T) {
	for _, b := range []string{"", rec("abc"), rec("abc")[:5], "\x80", "\x80\x00", "\x81\x80\x08", "\x00wrong", recs("a", "a")} {
		d := full(t, b, 9)
		d.Fuse(0)
		d.Append([]byte("\x80"))
		if s, e := store.Open(d); s != nil || e != api.ErrDead || string(d.Bytes()) != b || !d.Dead() {
			t.Errorf("%x: %d, size %d", b, e, d.Size())
		}
		d.Start()
		_, size, fault := told(b)
		if _, e := store.Open(d); e != fault || d.Size() != size {
			t.Errorf("%x, started: %d, size %d", b, e, d.Size())
		}
	}
}

// P14.1: behind what was cut off there is room again, and what is put stands there.
func TestOpenGoesOn(t *testing.T) {
	whole := recs("abc", "", "defg")
	for torn := range len(rec("defg")) {
		b := whole[:len(whole)-len(rec("defg"))+torn]
		d := full(t, b, len(whole)-len(b))
		s := opened(t, d)
		holds(t, s, []string{"abc", ""}, "cut off")
		puts(t, s, d, "defg")
		holds(t, s, []string{"abc", "", "defg"}, "put again")
		if d.Left() != 0 || string(d.Bytes()) != whole {
			t.Errorf("%d bytes were torn: %x", torn, d.Bytes())
		}
		holds(t, opened(t, d), []string{"abc", "", "defg"}, "opened again")
	}
}

// P14.2, P14.3: objects of many lengths, and bytes, in their order; each is there as soon as its id is told, none ahead of that.
func TestPut(t *testing.T) {
	d, _ := disk.New(1 << 22)
	s := opened(t, d)
	all := append(some(9, 1, 0, 127, 128, 129, 63, 64, 16383, 16384, 131071, 131072), "\x00", "\x00\x00", "\xff", "z", "a", "\x03abc\xba\x78\x16\xbf", rec("abc")[:7], "é", "\n")
	for i, x := range all {
		holds(t, s, all[:i], "so far")
		puts(t, s, d, x)
	}
	holds(t, s, all, "all")
	if string(d.Bytes()) != recs(all...) {
		t.Error("these aren't the records")
	}
	// Once more, in another order: nothing is done.
	for i := range all {
		puts(t, s, d, all[len(all)-1-i])
	}
	holds(t, s, all, "twice")
	u := opened(t, d)
	holds(t, u, all, "opened again")
	for _, x := range all {
		puts(t, u, d, x)
	}
	puts(t, u, d, "more")
	holds(t, u, append(all, "more"), "more")
}

// P14.2: all texts of up to two bytes.
func TestPutShort(t *testing.T) {
	d, _ := disk.New(1 << 20)
	s := opened(t, d)
	var all []string
	put := func(x string) {
		if id, e := s.Put([]byte(x)); id != name(x) || e != api.OK {
			t.Fatalf("%q: %x, %d", x, id, e)
		}
		all = append(all, x)
	}
	put("")
	for x := 255; x >= 0; x-- {
		put(string([]byte{byte(x)}))
		for y := range 256 {
			put(string([]byte{byte(x), byte(y)}))
		}
	}
	holds(t, s, all, "all")
	holds(t, opened(t, d), all, "opened again")
}

// P14.2: MaxObject bytes may be, and one more not, whether there is room, or the disk is dead, or not (R2).
func TestPutLong(t *testing.T) {
	if store.MaxObject != 131072 {
		t.Errorf("%d bytes at most", store.MaxObject)
	}
	long := strings.Repeat("x", 131072)
	for _, room := range []int{0, 131078, 131079, 131080, 1 << 20} {
		d, _ := disk.New(room)
		s := opened(t, d)
		fails(t, s, long+"x", api.ErrLong)
		fails(t, s, strings.Repeat("y", 1<<20), api.ErrLong)
		if d.Size() != 0 || d.Dead() {
			t.Errorf("room %d: size %d", room, d.Size())
		}
		if room < 131079 {
			fails(t, s, long, api.ErrFull)
			holds(t, s, nil, "full")
		} else {
			puts(t, s, d, long)
			holds(t, s, []string{long}, "long")
			holds(t, opened(t, d), []string{long}, "long, opened again")
		}
	}
	d, _ := disk.New(1 << 20)
	s := opened(t, d)
	d.Fuse(100)
	fails(t, s, long+"x", api.ErrLong)
	if d.Dead() {
		t.Error("a fuse ended, though nothing was to be written")
	}
	fails(t, s, long, api.ErrDead)
	fails(t, s, long+"x", api.ErrLong)
	if d.Size() != 100 {
		t.Errorf("size %d", d.Size())
	}
}

// P14.2: where there is no room for a whole record it isn't put, and nothing is written; a lesser one may still be.
func TestPutFull(t *testing.T) {
	for room := range 30 {
		d, _ := disk.New(room)
		s := opened(t, d)
		var want []string
		for _, x := range []string{"abcdef", "ghij", "abcdef", "klm", "", "n", "ghij", "o"} {
			if s.Has(name(x)) || d.Left() >= len(rec(x)) {
				if !s.Has(name(x)) {
					want = append(want, x)
				}
				puts(t, s, d, x)
				continue
			}
			fails(t, s, x, api.ErrFull)
			if string(d.Bytes()) != recs(want...) || d.Dead() {
				t.Fatalf("room %d, %q: %x", room, x, d.Bytes())
			}
		}
		holds(t, s, want, "full")
		holds(t, opened(t, d), want, "full, opened again")
	}
}

// P14.2: an object that is there is told, and nothing is done, where the disk is full, has a fuse, or is dead, too.
func TestPutSame(t *testing.T) {
	d := full(t, recs("abc", ""), 3)
	s := opened(t, d)
	for range 3 {
		puts(t, s, d, "abc")
		puts(t, s, d, "")
		fails(t, s, "x", api.ErrFull)
	}
	d = full(t, recs("abc", ""), 20)
	s = opened(t, d)
	d.Fuse(0)
	puts(t, s, d, "abc")
	puts(t, s, d, "")
	if d.Dead() {
		t.Error("a fuse ended, though nothing was to be written")
	}
	fails(t, s, "x", api.ErrDead)
	puts(t, s, d, "")
	puts(t, s, d, "abc")
	fails(t, s, "x", api.ErrDead)
	fails(t, s, strings.Repeat("more than there is room for", 9), api.ErrDead)
	holds(t, s, []string{"abc", ""}, "dead")
	if string(d.Bytes()) != recs("abc", "") {
		t.Errorf("%x", d.Bytes())
	}
}

// P14.4: wherever power fails within rows of puts: opened again there are those whose Put told an id, then the others are put.
func TestTorn(t *testing.T) {
	all := append(some(3, 0, 130, 1, 40), "abc", "\x80\x80")
	whole := recs(all...)
	for fuse := range len(whole) + 1 {
		d, _ := disk.New(len(whole))
		s := opened(t, d)
		d.Fuse(fuse)
		var made []string
		for _, x := range append(all, all...) {
			had := s.Has(name(x))
			id, e := s.Put([]byte(x))
			if e == api.OK && id == name(x) {
				if !had {
					made = append(made, x)
				}
			} else if e != api.ErrDead || id != "" || !d.Dead() {
				t.Fatalf("a fuse of %d: %x, %d", fuse, id, e)
			}
		}
		if len(made) < len(all) != (fuse < len(whole)) || string(d.Bytes()) != whole[:fuse] {
			t.Fatalf("a fuse of %d: %d were put, size %d", fuse, len(made), d.Size())
		}
		holds(t, s, made, "power failed")
		if d.Dead() {
			if s, e := store.Open(d); s != nil || e != api.ErrDead || d.Size() != fuse {
				t.Fatalf("a fuse of %d, dead: %d, size %d", fuse, e, d.Size())
			}
		}
		d.Start()
		holds(t, opened(t, d), made, "opened again")
		if string(d.Bytes()) != recs(made...) {
			t.Fatalf("a fuse of %d, opened again: size %d", fuse, d.Size())
		}
		s = opened(t, d)
		holds(t, s, made, "opened twice")
		for _, x := range all {
			puts(t, s, d, x)
		}
		if string(d.Bytes()) != whole {
			t.Fatalf("a fuse of %d, all put: size %d", fuse, d.Size())
		}
		holds(t, s, all, "all put")
		holds(t, opened(t, d), all, "all put, opened again")
	}
}

// P14.4: power fails again and again, each time a byte later, until all is there.
func TestTornAgain(t *testing.T) {
	all := some(2, 5, 0, 12)
	d, _ := disk.New(len(recs(all...)))
	for fuse := 0; ; fuse++ {
		s := opened(t, d)
		made := s.Many()
		holds(t, s, all[:made], "opened")
		if made == len(all) {
			break
		}
		d.Fuse(fuse)
		for _, x := range all {
			if _, e := s.Put([]byte(x)); e != api.OK {
				break
			}
			made = max(made, s.Many())
		}
		d.Start()
		holds(t, opened(t, d), all[:made], "opened again")
	}
}

// P14.1, P14.2: a great disk with many small objects is opened, and what is left isn't copied for each of them.
func TestGreat(t *testing.T) {
	const many = 300000
	d, _ := disk.New(disk.MaxRoom)
	s := opened(t, d)
	for i := range many {
		if _, e := s.Put([]byte(strconv.Itoa(i))); e != api.OK {
			t.Fatalf("object %d: %d", i, e)
		}
	}
	if d.Append([]byte("\x07torn")) != api.OK {
		t.Fatal("no room")
	}
	size := d.Size() - 5
	var before, after runtime.MemStats
	runtime.ReadMemStats(&before)
	u := opened(t, d)
	runtime.ReadMemStats(&after)
	if taken := after.TotalAlloc - before.TotalAlloc; taken > 1<<30 {
		t.Errorf("%d bytes of memory for a disk of %d", taken, size)
	}
	if u.Many() != many || d.Size() != size || !slices.Equal(u.Ids(), s.Ids()) {
		t.Fatalf("%d objects, size %d", u.Many(), d.Size())
	}
	for i := range many {
		x := strconv.Itoa(i)
		if b, ok := u.Get(name(x)); !ok || string(b) != x {
			t.Fatalf("object %d: %q", i, b)
		}
	}
}

// P14.1 to P14.3: a disk of MaxRoom, filled with the longest objects.
func TestGreatObjects(t *testing.T) {
	d, _ := disk.New(disk.MaxRoom)
	s := opened(t, d)
	x := bytes.Repeat([]byte("great"), 1<<17/5+1)[:1<<17]
	many := disk.MaxRoom / (1<<17 + 7)
	for i := range many {
		x[i] = 0
		if id, e := s.Put(x); e != api.OK || id != name(string(x)) {
			t.Fatalf("object %d: %d", i, e)
		}
	}
	x[many] = 0
	fails(t, s, string(x), api.ErrFull)
	u := opened(t, d)
	for i, id := range u.Ids() {
		if b, ok := u.Get(id); !ok || len(b) != 1<<17 || bytes.Count(b, []byte{0}) != i+1 || name(string(b)) != id {
			t.Fatalf("object %d: %d bytes", i, len(b))
		}
	}
	if u.Many() != many || !slices.Equal(u.Ids(), s.Ids()) {
		t.Errorf("%d objects, not %d", u.Many(), many)
	}
}

// R4: no list and an empty one are the same object.
func TestNil(t *testing.T) {
	for _, x := range [][]byte{nil, {}, make([]byte, 0, 9)} {
		for _, y := range [][]byte{nil, {}} {
			d, _ := disk.New(100)
			s := opened(t, d)
			if len(s.Ids()) != 0 || s.Many() != 0 || s.Has(name("")) {
				t.Error("a new one has objects")
			}
			one, e := s.Put(x)
			two, f := s.Put(y)
			if one != name("") || two != one || e != api.OK || f != api.OK || string(d.Bytes()) != "\x00\xe3\xb0\xc4\x42" {
				t.Errorf("%x, %x, %d, %d, %x", one, two, e, f, d.Bytes())
			}
			holds(t, s, []string{""}, "no bytes")
		}
	}
}

// R5: what is handed in isn't changed, nor what stands behind it, and it isn't kept.
func TestHandedIn(t *testing.T) {
	want := []string{"abc", "defg", ""}
	d, _ := disk.New(100)
	s := opened(t, d)
	row := []byte("abcdefg")
	s.Put(row[:3])
	s.Put(row[3:])
	s.Put(row[3:3])
	if string(row) != "abcdefg" {
		t.Fatalf("%q was handed in, and is changed", row)
	}
	clear(row)
	holds(t, s, want, "what was handed in is changed")
	u := opened(t, d)
	// A store has memory of its own: what stands on the disk later changes no object.
	d.Cut(0)
	d.Append([]byte("other bytes, in place of all those that were there"))
	holds(t, s, want, "the disk has other bytes")
	holds(t, u, want, "opened, and then the disk has other bytes")
}

// R5: what is told is memory of its own, of objects that were put, and of those that were there when it was opened.
func TestTold(t *testing.T) {
	want := []string{"abc", "defg", "", "hi"}
	d, _ := disk.New(100)
	s := opened(t, d)
	for _, x := range want {
		puts(t, s, d, x)
	}
	for _, x := range []*store.Store{s, opened(t, d)} {
		ids := x.Ids()
		for _, id := range ids {
			b, _ := x.Get(id)
			clear(b)
			_ = append(b, "more behind it"...)
		}
		holds(t, x, want, "bodies are changed")
		clear(ids)
		_ = append(ids[:1], "?", "?")
		holds(t, x, want, "ids are changed")
	}
	ids := s.Ids()
	b, _ := s.Get(name("abc"))
	puts(t, s, d, "jkl")
	if string(b) != "abc" || len(ids) != len(want) {
		t.Errorf("told ahead of a put: %q, %d ids", b, len(ids))
	}
}

// R5: what one store tells is put into another one, and itself.
func TestOwnBytes(t *testing.T) {
	d, _ := disk.New(100)
	c, _ := disk.New(100)
	s, u := opened(t, d), opened(t, c)
	puts(t, s, d, "abc")
	b, _ := s.Get(name("abc"))
	s.Put(b)
	u.Put(b)
	clear(b)
	u.Put(b)
	holds(t, s, []string{"abc"}, "itself")
	holds(t, u, []string{"abc", "\x00\x00\x00"}, "another one")
}

// R6: stores hang on their own disks, and on no other one; a copy of a disk goes on by itself.
func TestApart(t *testing.T) {
	d, _ := disk.New(100)
	s := opened(t, d)
	puts(t, s, d, "abc")
	c := d.Copy()
	u := opened(t, c)
	puts(t, s, d, "one")
	puts(t, u, c, "two")
	c.Fuse(2)
	fails(t, u, "three", api.ErrDead)
	puts(t, s, d, "three")
	holds(t, s, []string{"abc", "one", "three"}, "the first one")
	holds(t, u, []string{"abc", "two"}, "the other one")
	holds(t, opened(t, d), []string{"abc", "one", "three"}, "the first one, opened again")
	c.Start()
	holds(t, opened(t, c), []string{"abc", "two"}, "the other one, opened again")
}

// R6: who only asks changes nothing, several at that time either; the order is that of the puts, each time.
func TestAsk(t *testing.T) {
	d, _ := disk.New(10000)
	s := opened(t, d)
	var all []string
	for i := range 100 {
		x := strconv.Itoa(i * 7919 % 100)
		puts(t, s, d, x)
		all = append(all, x)
	}
	before := string(d.Bytes())
	var group sync.WaitGroup
	for range 8 {
		group.Go(func() {
			for range 50 {
				if got := s.Ids(); len(got) != 100 || got[3] != name(all[3]) || s.Many() != 100 || s.Has("?") {
					t.Errorf("%d ids", len(got))
				}
				if b, ok := s.Get(name("42")); !ok || string(b) != "42" {
					t.Errorf("%q, %v", b, ok)
				}
			}
		})
	}
	group.Wait()
	holds(t, s, all, "asked")
	if string(d.Bytes()) != before {
		t.Error("the disk is changed by who asks")
	}
}
