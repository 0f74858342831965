package digest_test

import (
	"bytes"
	"crypto/sha256"
	"strings"
	"sync"
	"testing"

	"grapevine/api"
	"grapevine/digest"
)

// sample is a text of many bytes, in which no short piece comes again.
func sample(many int) []byte {
	out := make([]byte, many)
	x := uint32(1)
	for i := range out {
		x = x*1664525 + 1013904223
		out[i] = byte(x >> 24)
	}
	return out
}

// other is the digest by another program, that isn't this one.
func other(b []byte) api.Id {
	sum := sha256.Sum256(b)
	return api.Id(sum[:])
}

// P1.1: digests that are known from elsewhere, written out.
func TestOfKnown(t *testing.T) {
	for _, x := range []struct{ text, want string }{
		{"", "e3b0c44298fc1c149afbf4c8996fb92427ae41e4649b934ca495991b7852b855"},
		{"abc", "ba7816bf8f01cfea414140de5dae2223b00361a396177a9cb410ff61f20015ad"},
		{"abcdbcdecdefdefgefghfghighijhijkijkljklmklmnlmnomnopnopq", "248d6a61d20638b8e5c026930c3e6039a33ce45964ff2167f6ecedd419db06c1"},
		{strings.Repeat("a", 1000000), "cdc76e5c9914fb9281a1c7e284d73e67f1809a48a497200e046d39ccc7112cd0"},
	} {
		id := digest.Of([]byte(x.text))
		if got := digest.Hex(id); got != x.want {
			t.Errorf("of %d bytes: %s, not %s", len(x.text), got, x.want)
		}
		if len(id) != 32 {
			t.Errorf("of %d bytes: an id of %d bytes", len(x.text), len(id))
		}
	}
}

// P1.1: each length at which the text is filled up otherwise, over some blocks; and all bytes alike.
func TestOfLengths(t *testing.T) {
	text := sample(1000)
	for n := range len(text) + 1 {
		if digest.Of(text[:n]) != other(text[:n]) {
			t.Errorf("of %d bytes: another digest", n)
		}
	}
	for _, fill := range []byte{0, 127, 128, 255} {
		for n := range 200 {
			b := bytes.Repeat([]byte{fill}, n)
			if digest.Of(b) != other(b) {
				t.Errorf("of %d bytes %d: another digest", n, fill)
			}
		}
	}
}

// P1.1: the length, in bits, of texts for which it has one byte to four.
func TestOfLong(t *testing.T) {
	for _, n := range []int{31, 32, 8191, 8192, 1<<21 - 1, 1 << 21, 1<<21 + 1} {
		b := sample(n)
		if digest.Of(b) != other(b) {
			t.Errorf("of %d bytes: another digest", n)
		}
	}
}

// P1.1: to fill a text up has it be another one: what is behind it counts, a byte 0 or 128 too.
func TestOfUnlike(t *testing.T) {
	seen := map[api.Id]int{}
	for i, b := range [][]byte{{}, {0}, {0, 0}, {128}, {128, 0}, {0, 128}, {1}, make([]byte, 55), make([]byte, 56), make([]byte, 63), make([]byte, 64), make([]byte, 65)} {
		id := digest.Of(b)
		if k, ok := seen[id]; ok {
			t.Errorf("texts %d and %d have one digest", k, i)
		}
		seen[id] = i
	}
}

// P1.1: a new hash is of no bytes; writing none changes nothing; the sum stays, however often it is asked.
func TestSumStays(t *testing.T) {
	h := digest.New()
	if h.Sum() != other(nil) {
		t.Error("a new hash isn't of no bytes")
	}
	text := sample(300)
	for n := range text {
		first := h.Sum()
		h.Write(nil)
		h.Write([]byte{})
		if first != h.Sum() || first != other(text[:n]) {
			t.Fatalf("%d bytes: the sum doesn't stay", n)
		}
		h.Write(text[n : n+1])
	}
	if h.Sum() != other(text) {
		t.Error("asking for sums changed the last one")
	}
}

// P1.1: a hash has its own text: what is written to another one, or made by Of, isn't in it.
func TestHashesApart(t *testing.T) {
	g, h := digest.New(), digest.New()
	text := sample(200)
	for i := range 100 {
		g.Write(text[i : i+1])
		digest.Of(text)
		h.Write(text[100+i : 101+i])
	}
	if g.Sum() != other(text[:100]) || h.Sum() != other(text[100:]) {
		t.Error("two hashes have what isn't theirs")
	}
	if digest.New().Sum() != other(nil) {
		t.Error("a new hash isn't of no bytes")
	}
}

// P1.3: in two parts, at each place; in three, around the blocks' ends; in parts of one length.
func TestParts(t *testing.T) {
	text := sample(260)
	want := other(text)
	for i := range len(text) + 1 {
		if sum(text[:i], text[i:]) != want {
			t.Errorf("cut at %d: another digest", i)
		}
		for _, n := range []int{0, 1, 55, 56, 63, 64, 65, 128} {
			if k := i + n; k <= len(text) && sum(text[:i], text[i:k], text[k:]) != want {
				t.Errorf("cut at %d and %d: another digest", i, k)
			}
		}
	}
	for n := 1; n <= len(text); n++ {
		h := digest.New()
		for from := 0; from < len(text); from += n {
			h.Write(text[from:min(from+n, len(text))])
		}
		if h.Sum() != want {
			t.Errorf("in parts of %d bytes: another digest", n)
		}
	}
}

func sum(parts ...[]byte) api.Id {
	h := digest.New()
	for _, b := range parts {
		h.Write(b)
	}
	return h.Sum()
}

// P1.2: each byte at each place has its two digits, and they are read again.
func TestHexAndParse(t *testing.T) {
	const digits = "0123456789abcdef"
	for x := range 256 {
		for at := range 32 {
			b := bytes.Repeat([]byte{byte(255 - x)}, 32)
			b[at] = byte(x)
			s := digest.Hex(api.Id(b))
			if len(s) != 64 || s[2*at] != digits[x/16] || s[2*at+1] != digits[x%16] {
				t.Fatalf("byte %d at %d: %q", x, at, s)
			}
			if id, ok := digest.Parse(s); !ok || id != api.Id(b) {
				t.Fatalf("byte %d at %d: read as %q, %v", x, at, id, ok)
			}
		}
	}
}

// P1.2: ids that haven't 32 bytes have no digits.
func TestHexWrong(t *testing.T) {
	for n := range 200 {
		if s := digest.Hex(api.Id(make([]byte, n))); (s == "") != (n != 32) {
			t.Errorf("an id of %d bytes: %q", n, s)
		}
	}
}

// P1.2: each byte at each place that is no digit, capitals too; the id is empty then (R3).
func TestParseWrong(t *testing.T) {
	good := strings.Repeat("0f", 32)
	for at := range good {
		for x := range 256 {
			b := []byte(good)
			b[at] = byte(x)
			id, ok := digest.Parse(string(b))
			if want := strings.IndexByte("0123456789abcdef", byte(x)) >= 0; ok != want {
				t.Fatalf("byte %d at %d: %v", x, at, ok)
			}
			if ok && digest.Hex(id) != string(b) || !ok && id != "" {
				t.Fatalf("byte %d at %d: %q", x, at, id)
			}
		}
	}
}

// P1.2: of each length but 64 nothing is read; nor of 64 bytes that have runes of several bytes, or signs around.
func TestParseLengths(t *testing.T) {
	for n := range 300 {
		id, ok := digest.Parse(strings.Repeat("a", n))
		if ok != (n == 64) || (id == "") != (n != 64) {
			t.Errorf("%d digits: %q, %v", n, id, ok)
		}
	}
	tail := strings.Repeat("0", 62)
	for _, s := range []string{"é" + tail, tail + "é", "0x" + tail, "0X" + tail, "+0" + tail, "-1" + tail, tail + " \n", tail + "\x00\x00", tail[:61] + "\uff10", "AB" + tail} {
		if id, ok := digest.Parse(s); ok || id != "" {
			t.Errorf("%q: %q, %v", s, id, ok)
		}
	}
}

// R4: no list and an empty one have the same digest.
func TestNil(t *testing.T) {
	if digest.Of(nil) != other(nil) || digest.Of([]byte{}) != other(nil) {
		t.Error("no bytes have another digest")
	}
}

// R5: what is handed in isn't changed, nor is what stands behind it; who changes it later changes no digest.
func TestMemory(t *testing.T) {
	whole := sample(400)
	before := bytes.Clone(whole)
	for n := range 300 {
		h := digest.New()
		h.Write(whole[:n])
		h.Sum()
		digest.Of(whole[:n])
		if !bytes.Equal(whole, before) {
			t.Fatalf("%d bytes: what was handed in is changed", n)
		}
	}
	for n := range 200 {
		h := digest.New()
		b := bytes.Clone(whole[:n])
		h.Write(b)
		want := other(b)
		clear(b)
		if h.Sum() != want {
			t.Fatalf("%d bytes: the hash keeps what was handed in", n)
		}
	}
}

// R6: what is told hangs on nothing else, not on who else asks at that time either.
func TestTogether(t *testing.T) {
	text := sample(1000)
	h := digest.New()
	h.Write(text)
	want := other(text)
	var all sync.WaitGroup
	for range 8 {
		all.Go(func() {
			for range 50 {
				id, ok := digest.Parse(digest.Hex(digest.Of(text)))
				if !ok || id != want || h.Sum() != want {
					t.Error("another digest, when several ask")
				}
			}
		})
	}
	all.Wait()
}
