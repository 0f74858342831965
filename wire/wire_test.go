package wire_test

import (
	"bytes"
	"encoding/binary"
	"math"
	"math/big"
	"testing"

	"grapevine/api"
	"grapevine/wire"
)

// known are numbers with their forms, written out.
var known = []struct {
	n    uint64
	form string
}{
	{0, "\x00"}, {1, "\x01"}, {127, "\x7f"}, {128, "\x80\x01"}, {129, "\x81\x01"}, {255, "\xff\x01"},
	{256, "\x80\x02"}, {300, "\xac\x02"}, {16383, "\xff\x7f"}, {16384, "\x80\x80\x01"},
	{1<<32 - 1, "\xff\xff\xff\xff\x0f"}, {1 << 32, "\x80\x80\x80\x80\x10"},
	{1<<56 - 1, "\xff\xff\xff\xff\xff\xff\xff\x7f"}, {1 << 56, "\x80\x80\x80\x80\x80\x80\x80\x80\x01"},
	{1<<63 - 1, "\xff\xff\xff\xff\xff\xff\xff\xff\x7f"},
	{1 << 63, "\x80\x80\x80\x80\x80\x80\x80\x80\x80\x01"},
	{1<<64 - 1, "\xff\xff\xff\xff\xff\xff\xff\xff\xff\x01"},
}

// numbers are those around each power of 2, and a row of small ones.
func numbers() []uint64 {
	var out []uint64
	for n := range uint64(1 << 15) {
		out = append(out, n)
	}
	for k := range 64 {
		p := uint64(1) << k
		out = append(out, p-1, p, p+1, ^p, p|p>>1, p|1)
	}
	return out
}

// sample is a text of many bytes.
func sample(many int) []byte {
	out := make([]byte, many)
	x := uint32(1)
	for i := range out {
		x = x*1664525 + 1013904223
		out[i] = byte(x >> 24)
	}
	return out
}

// state is what a reader tells of itself.
type state struct {
	left      int
	fail, end api.Errno
}

func of(r *wire.Reader) state { return state{r.Left(), r.Fail(), r.End()} }

// open is what a reader tells of itself that hasn't failed.
func open(left int) state {
	if left > 0 {
		return state{left, api.OK, api.ErrTail}
	}
	return state{left, api.OK, api.OK}
}

// lame is what one tells that failed.
func lame(left int, why api.Errno) state { return state{left, why, why} }

// stuck tells whether a reader that failed does nothing any more, whatever is asked, and whichever is asked first.
func stuck(t *testing.T, r *wire.Reader, want state) {
	t.Helper()
	for range 2 {
		if n := r.Num(); n != 0 || of(r) != want {
			t.Errorf("failed, then a number: %d, %v, not %v", n, of(r), want)
		}
		for _, most := range []int{0, 100, -1, math.MaxInt, math.MinInt} {
			if x := r.Text(most); len(x) != 0 || of(r) != want {
				t.Errorf("failed, then a text of at most %d: %x, %v, not %v", most, x, of(r), want)
			}
		}
	}
}

// P2.1: numbers whose forms are written out; what stood ahead of them stays.
func TestNumKnown(t *testing.T) {
	for _, x := range known {
		for _, front := range []string{"", "x", "\x80", "\x00\xff"} {
			if got := wire.Num([]byte(front), x.n); string(got) != front+x.form {
				t.Errorf("%d behind %x: %x", x.n, front, got)
			}
		}
	}
}

// P2.1: the same forms as by another program, that isn't this one.
func TestNumOther(t *testing.T) {
	for _, n := range numbers() {
		if got, want := wire.Num([]byte("ab"), n), binary.AppendUvarint([]byte("ab"), n); !bytes.Equal(got, want) {
			t.Errorf("%d: %x, not %x", n, got, want)
		}
	}
}

// P2.1: a text's form is that of how many bytes it has, and these.
func TestTextForm(t *testing.T) {
	for _, n := range []int{0, 1, 2, 127, 128, 129, 300, 16383, 16384, 1<<21 - 1, 1 << 21} {
		x := sample(n)
		for _, front := range []string{"", "x", "\x80\x80"} {
			want := append(binary.AppendUvarint([]byte(front), uint64(n)), x...)
			if got := wire.Text([]byte(front), x); !bytes.Equal(got, want) {
				t.Errorf("a text of %d bytes behind %x: another form", n, front)
			}
		}
	}
	if got := wire.Text([]byte{9}, []byte("abc")); string(got) != "\x09\x03abc" {
		t.Errorf("abc behind 9: %x", got)
	}
}

// P2.2: a new reader stands at the front, and hasn't failed; who only asks changes nothing (R6).
func TestOpen(t *testing.T) {
	for n := range 50 {
		r := wire.Open(bytes.Repeat([]byte{128}, n))
		for range 3 {
			if of(r) != open(n) {
				t.Errorf("a new reader of %d bytes: %v", n, of(r))
			}
		}
	}
}

// P2.2: left, fail and end at each place on the way.
func TestOnTheWay(t *testing.T) {
	r := wire.Open([]byte("\x05\xac\x02\x03abc\x00\x80\x01"))
	for i, x := range []struct {
		text bool
		n    uint64
		s    string
		left int
	}{{false, 5, "", 9}, {false, 300, "", 7}, {true, 0, "abc", 3}, {true, 0, "", 2}, {false, 128, "", 0}} {
		if x.text {
			if s := r.Text(3); string(s) != x.s {
				t.Errorf("step %d: %x", i, s)
			}
		} else if n := r.Num(); n != x.n {
			t.Errorf("step %d: %d", i, n)
		}
		if of(r) != open(x.left) {
			t.Errorf("step %d: %v", i, of(r))
		}
	}
	if n := r.Num(); n != 0 || of(r) != lame(0, api.ErrShort) {
		t.Errorf("behind the end: %d, %v", n, of(r))
	}
	stuck(t, r, lame(0, api.ErrShort))
}

// P2.3: numbers whose forms are written out, with whatever stands behind them.
func TestReadKnown(t *testing.T) {
	for _, x := range known {
		for _, tail := range []string{"", "\x00", "\x80", "\xff\xff\xff\xff\xff\xff\xff\xff\xff\xff"} {
			r := wire.Open([]byte(x.form + tail))
			if n := r.Num(); n != x.n || of(r) != open(len(tail)) {
				t.Errorf("%x, and %x behind it: %d, %v", x.form, tail, n, of(r))
			}
		}
	}
}

// P2.3: what is no number's form, and which error is first; whatever was read ahead of it.
func TestNumWrong(t *testing.T) {
	ten, nine := string(bytes.Repeat([]byte{128}, 10)), string(bytes.Repeat([]byte{128}, 9))
	full := string(bytes.Repeat([]byte{255}, 9))
	for _, x := range []struct {
		s    string
		want api.Errno
	}{
		{"", api.ErrShort}, {"\x80", api.ErrShort}, {"\xff", api.ErrShort}, {"\x80\x80", api.ErrShort},
		{nine, api.ErrShort}, {full, api.ErrShort},
		{ten, api.ErrForm}, {full + "\xff", api.ErrForm}, {ten + "\x80", api.ErrForm}, {ten + "\x01", api.ErrForm}, {ten + "\x00", api.ErrForm},
		{"\x80\x00", api.ErrForm}, {"\xff\x00", api.ErrForm}, {"\x80\x80\x00", api.ErrForm}, {"\xac\x82\x00", api.ErrForm},
		{"\x80\x00\x01", api.ErrForm}, {nine[:8] + "\x00", api.ErrForm}, {nine + "\x00", api.ErrForm},
		{nine + "\x02", api.ErrForm}, {nine + "\x03", api.ErrForm}, {nine + "\x7f", api.ErrForm}, {full + "\x02", api.ErrForm}, {full + "\x7f", api.ErrForm},
	} {
		for _, front := range []string{"", "\x07", "\xac\x02"} {
			for _, text := range []bool{false, true} {
				r := wire.Open([]byte(front + x.s))
				if front != "" {
					r.Num()
				}
				if text {
					if s := r.Text(math.MaxInt); len(s) != 0 {
						t.Errorf("%x: text %x", x.s, s)
					}
				} else if n := r.Num(); n != 0 {
					t.Errorf("%x: %d", x.s, n)
				}
				if want := lame(len(x.s), x.want); of(r) != want {
					t.Errorf("%x behind %x: %v, not %v", x.s, front, of(r), want)
				}
				stuck(t, r, lame(len(x.s), x.want))
			}
		}
	}
}

// told is what the document tells of a number at the front of bytes, reckoned with numbers without an end: the number, how many bytes, and the error.
func told(b []byte) (uint64, int, api.Errno) {
	many := 0
	for many < len(b) && b[many] >= 128 {
		many++
	}
	if many >= 10 {
		return 0, 0, api.ErrForm
	}
	if many == len(b) {
		return 0, 0, api.ErrShort
	}
	many++
	n := new(big.Int)
	for i := many - 1; i >= 0; i-- {
		n.Add(n.Lsh(n, 7), big.NewInt(int64(b[i]%128)))
	}
	if n.BitLen() > 64 || many > 1 && n.BitLen() <= 7*(many-1) {
		return 0, 0, api.ErrForm
	}
	return n.Uint64(), many, api.OK
}

// inputs are all bytes of up to two, and rows of those that are at edges.
func inputs() [][]byte {
	out := [][]byte{{}}
	for x := range 256 {
		out = append(out, []byte{byte(x)})
		for y := range 256 {
			out = append(out, []byte{byte(x), byte(y)})
		}
	}
	edges := []byte{0, 1, 2, 63, 64, 127, 128, 129, 192, 255}
	for _, x := range edges {
		for many := range 14 {
			row := bytes.Repeat([]byte{x}, many)
			for _, y := range edges {
				for _, z := range edges {
					out = append(out, append(bytes.Clone(row), y, z))
				}
			}
		}
	}
	return out
}

// P2.3, P2.4: on many inputs what is read is what the document tells, and its form is what stood there.
func TestNumAll(t *testing.T) {
	for _, b := range inputs() {
		n, many, fail := told(b)
		want := open(len(b) - many)
		if fail != api.OK {
			want = lame(len(b), fail)
		}
		r := wire.Open(b)
		if got := r.Num(); got != n || of(r) != want {
			t.Fatalf("%x: %d, %v, not %d, %v", b, got, of(r), n, want)
		}
		if fail == api.OK && !bytes.Equal(wire.Num(nil, n), b[:many]) {
			t.Fatalf("%x: %d has another form too", b, n)
		}
	}
}

// P2.3, P2.4: texts of many inputs, with each most around how many bytes they tell of.
func TestTextAll(t *testing.T) {
	for _, b := range inputs() {
		n, at, fail := told(b)
		for _, most := range []int{math.MinInt, -1, 0, 1, 2, 3, 12, 13, 127, 128, math.MaxInt} {
			want, why := []byte(nil), fail
			switch limit := big.NewInt(int64(max(most, 0))); {
			case fail != api.OK:
			case new(big.Int).SetUint64(n).Cmp(limit) > 0:
				why = api.ErrLong
			case new(big.Int).SetUint64(n).Cmp(big.NewInt(int64(len(b)-at))) > 0:
				why = api.ErrShort
			default:
				want = b[at : at+int(n)]
			}
			then := open(len(b) - at - len(want))
			if why != api.OK {
				then = lame(len(b), why)
			}
			r := wire.Open(b)
			if got := r.Text(most); !bytes.Equal(got, want) || of(r) != then {
				t.Fatalf("%x, at most %d: %x, %v, not %x, %v", b, most, got, of(r), want, then)
			}
			if why == api.OK && !bytes.Equal(wire.Text(nil, want), b[:at+len(want)]) {
				t.Fatalf("%x: %x has another form too", b, want)
			}
		}
	}
}

// P2.3: a text's errors, and which is first: that of its number, then too long, then too short; whatever was read ahead of it.
func TestTextWrong(t *testing.T) {
	for _, x := range []struct {
		s    string
		most int
		want api.Errno
	}{
		{"\x03abc", 2, api.ErrLong}, {"\x03abc", 0, api.ErrLong}, {"\x03ab", 2, api.ErrLong}, {"\x03", 2, api.ErrLong},
		{"\x01a", -1, api.ErrLong}, {"\x01a", math.MinInt, api.ErrLong}, {"\x01", 0, api.ErrLong},
		{"\x03ab", 3, api.ErrShort}, {"\x03", 3, api.ErrShort}, {"\x01", 1, api.ErrShort}, {"\xac\x02abc", 300, api.ErrShort}, {"\xac\x02abc", 299, api.ErrLong},
		{"\x83\x00abc", 9, api.ErrForm}, {"\x83\x00abc", 0, api.ErrForm}, {"\x80", -1, api.ErrShort}, {"", 0, api.ErrShort},
	} {
		for _, front := range []string{"", "\x07", "\xac\x02"} {
			r := wire.Open([]byte(front + x.s))
			if front != "" {
				r.Num()
			}
			if s := r.Text(x.most); len(s) != 0 {
				t.Errorf("%x, at most %d: %x", x.s, x.most, s)
			}
			if want := lame(len(x.s), x.want); of(r) != want {
				t.Errorf("%x behind %x, at most %d: %v, not %v", x.s, front, x.most, of(r), want)
			}
			stuck(t, r, lame(len(x.s), x.want))
		}
	}
}

// P2.3: texts of just as many bytes as may be, and are there; a most below 0 is one of 0.
func TestTextMost(t *testing.T) {
	for n := range 300 {
		x := sample(n)
		b := wire.Text(nil, x)
		for _, most := range []int{n, n + 1, math.MaxInt} {
			r := wire.Open(b)
			if got := r.Text(most); !bytes.Equal(got, x) || of(r) != open(0) {
				t.Errorf("%d bytes, at most %d: %x, %v", n, most, got, of(r))
			}
		}
		if r := wire.Open(b[:len(b)-1]); n > 0 && (len(r.Text(n)) != 0 || of(r) != lame(len(b)-1, api.ErrShort)) {
			t.Errorf("%d bytes, one lacks: %v", n, of(r))
		}
		if r := wire.Open(b); n > 0 && (len(r.Text(n-1)) != 0 || of(r) != lame(len(b), api.ErrLong)) {
			t.Errorf("%d bytes, at most %d: %v", n, n-1, of(r))
		}
	}
	for _, most := range []int{-1, -5, math.MinInt} {
		if r := wire.Open([]byte{0, 7}); len(r.Text(most)) != 0 || of(r) != open(1) || r.Num() != 7 {
			t.Errorf("no bytes, at most %d: %v", most, of(r))
		}
	}
}

// R1, P2.3: lengths that no int has, or that with the place go round.
func TestTextHuge(t *testing.T) {
	for _, n := range []uint64{1<<63 - 1, 1<<63 - 2, 1<<63 - 10, 1 << 63, 1<<63 + 1, 1<<64 - 1, 1<<64 - 10, 1 << 32, 1 << 31} {
		for _, most := range []int{math.MaxInt, math.MaxInt - 1, 1 << 32, 1 << 31, 0, -1, math.MinInt} {
			want := api.ErrShort
			if most < 0 || n > uint64(most) {
				want = api.ErrLong
			}
			b := append(wire.Num(nil, n), "abc"...)
			if r := wire.Open(b); len(r.Text(most)) != 0 || of(r) != lame(len(b), want) {
				t.Errorf("%d bytes, at most %d: %v, not %v", n, most, of(r), want)
			}
		}
	}
}

// P2.4: what is put, one behind the other, is read.
func TestPutAndRead(t *testing.T) {
	var b []byte
	all := numbers()[1<<15-200:]
	for i, n := range all {
		b = wire.Text(wire.Num(b, n), sample(i%200))
	}
	r := wire.Open(b)
	for i, n := range all {
		if got := r.Num(); got != n {
			t.Fatalf("number %d: %d, not %d", i, got, n)
		}
		if got := r.Text(i % 200); !bytes.Equal(got, sample(i%200)) {
			t.Fatalf("text %d: %x", i, got)
		}
	}
	if of(r) != open(0) {
		t.Errorf("at the end: %v", of(r))
	}
	for _, n := range numbers() {
		if r := wire.Open(wire.Num(nil, n)); r.Num() != n || of(r) != open(0) {
			t.Fatalf("%d: %v", n, of(r))
		}
	}
}

// R4: no list and an empty one are the same.
func TestNil(t *testing.T) {
	for _, x := range [][]byte{nil, {}} {
		if got := wire.Num(x, 5); string(got) != "\x05" {
			t.Errorf("a number behind none: %x", got)
		}
		for _, y := range [][]byte{nil, {}} {
			if got := wire.Text(x, y); string(got) != "\x00" {
				t.Errorf("no bytes behind none: %x", got)
			}
		}
		if r := wire.Open(x); of(r) != open(0) || r.Num() != 0 || of(r) != lame(0, api.ErrShort) {
			t.Errorf("a reader of none: %v", of(r))
		}
	}
}

// R5: what is put is memory of its own: neither what was handed in, nor what stands behind that, is written to.
func TestPutMemory(t *testing.T) {
	whole := sample(100)
	before := bytes.Clone(whole)
	for n := range 60 {
		one, two := wire.Num(whole[:n], 300), wire.Num(whole[:n], 5)
		three, four := wire.Text(whole[:n], whole[n:n+20]), wire.Text(whole[:n], nil)
		if !bytes.Equal(whole, before) {
			t.Fatalf("behind %d bytes: what was handed in is changed", n)
		}
		kept := bytes.Clone(one)
		clear(two)
		clear(three)
		clear(four)
		if !bytes.Equal(whole, before) || !bytes.Equal(one, kept) {
			t.Fatalf("behind %d bytes: what is answered is shared", n)
		}
	}
	x := []byte("abc")
	if got := wire.Text(x, x); string(got) != "abc\x03abc" || string(x) != "abc" {
		t.Errorf("a text behind itself: %x", got)
	}
}

// R5: what was put before stays, when more is put behind it, twice.
func TestPutTwice(t *testing.T) {
	b := wire.Text(nil, []byte("abc"))
	one := wire.Num(b, 1)
	two := wire.Num(b, 2)
	three := wire.Text(b, []byte("x"))
	if string(b) != "\x03abc" || string(one) != "\x03abc\x01" || string(two) != "\x03abc\x02" || string(three) != "\x03abc\x01x" {
		t.Errorf("%x, %x, %x, %x", b, one, two, three)
	}
}

// R5: a reader has memory of its own, and so has each text that it tells.
func TestReadMemory(t *testing.T) {
	b := []byte("\x03abc\x03def\x05")
	before := bytes.Clone(b)
	r, s := wire.Open(b), wire.Open(b)
	one := r.Text(3)
	clear(one)
	_ = append(one, 9, 9, 9, 9)
	if !bytes.Equal(b, before) {
		t.Error("who changes a text that was read changes what was handed in")
	}
	two := r.Text(3)
	if string(two) != "def" {
		t.Errorf("who changes a text that was read changes the next one: %x", two)
	}
	clear(b)
	if r.Num() != 5 || string(two) != "def" || of(r) != open(0) {
		t.Error("a reader keeps what was handed in")
	}
	if string(s.Text(3)) != "abc" || string(s.Text(3)) != "def" || s.Num() != 5 || of(s) != open(0) {
		t.Error("two readers of the same share it")
	}
}

// R5, P2.2: readers are apart: one that fails, or reads, changes no other one.
func TestReadersApart(t *testing.T) {
	b := []byte("\x01\x02\x80\x00")
	r, s := wire.Open(b), wire.Open(b)
	r.Num()
	r.Num()
	r.Num()
	if of(r) != lame(2, api.ErrForm) || of(s) != open(4) || s.Num() != 1 || of(s) != open(3) {
		t.Errorf("%v, %v", of(r), of(s))
	}
}
