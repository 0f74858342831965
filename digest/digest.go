// Package digest is layer 1: see shared/doc/01-digest.md.
package digest

import (
	"strings"

	"grapevine/api"
)

// How many bytes a digest has, and a block.
const (
	size  = 32
	block = 64
)

// digits are those of Hex, by what they are worth.
const digits = "0123456789abcdef"

// Hash is a text's digest in the making.
//
// Its lists are arrays, so that a copy of a hash shares nothing with it: Sum leans on that.
type Hash struct {
	sums [8]uint32
	last [block]byte // what is behind the last whole block
	many uint64
}

// Of is a text's digest.
func Of(b []byte) api.Id {
	h := New()
	h.Write(b)
	return h.Sum()
}

// Hex is an id in digits.
func Hex(id api.Id) string {
	if len(id) != size {
		return ""
	}
	out := make([]byte, 0, 2*size)
	for i := range size {
		out = append(out, digits[id[i]>>4], digits[id[i]&15])
	}
	return string(out)
}

// Parse is the id of digits.
func Parse(s string) (api.Id, bool) {
	if len(s) != 2*size {
		return "", false
	}
	out := make([]byte, 0, size)
	for i := range size {
		high := strings.IndexByte(digits, s[2*i])
		low := strings.IndexByte(digits, s[2*i+1])
		if high < 0 || low < 0 {
			return "", false
		}
		out = append(out, byte(high<<4|low))
	}
	return api.Id(out), true
}

// New is one of no bytes.
func New() *Hash {
	return &Hash{sums: [8]uint32{
		0x6a09e667, 0xbb67ae85, 0x3c6ef372, 0xa54ff53a, 0x510e527f, 0x9b05688c, 0x1f83d9ab, 0x5be0cd19,
	}}
}

// Write has more bytes stand behind.
func (h *Hash) Write(b []byte) {
	for len(b) > 0 {
		n := copy(h.last[h.many%block:], b)
		b = b[n:]
		h.many += uint64(n)
		if h.many%block == 0 {
			h.sums = mix(h.sums, spread(h.last))
		}
	}
}

// Sum is the digest so far.
func (h *Hash) Sum() api.Id {
	whole := *h // the text isn't filled up itself: more may still be written
	whole.Write(filling(h.many))
	out := make([]byte, 0, size)
	for _, x := range whole.sums {
		out = append(out, byte(x>>24), byte(x>>16), byte(x>>8), byte(x))
	}
	return api.Id(out)
}
