package wire

import (
	"bytes"

	"grapevine/api"
)

// A form has the number's bits by seven; a byte that isn't the last one is more by 128.
const (
	seven = 7
	more  = 128
)

// longest is how many bytes the form of a number of 64 bits may have, and topmost what the last one of so many may be.
const (
	longest = 10
	topmost = 1
)

// form is a number's one.
func form(n uint64) []byte {
	out := make([]byte, 0, longest)
	for n >= more {
		out = append(out, byte(n%more+more))
		n >>= seven
	}
	return append(out, byte(n))
}

// number is the one whose form stands first, and how many bytes that has; 0 of both where it fails.
func number(b []byte) (uint64, int, api.Errno) {
	n := uint64(0)
	for i, x := range b[:min(len(b), longest)] {
		n |= uint64(x%more) << (seven * i)
		if x >= more {
			continue
		}
		if i > 0 && x == 0 || i == longest-1 && x > topmost {
			return 0, 0, api.ErrForm
		}
		return n, i + 1, api.OK
	}
	if len(b) >= longest {
		return 0, 0, api.ErrForm
	}
	return 0, 0, api.ErrShort
}

// text is the one whose form stands first, and how many bytes that has; none where it fails.
func text(b []byte, most int) ([]byte, int, api.Errno) {
	n, at, fail := number(b)
	// Lengths are held against each other as uint64: n needn't fit into an int.
	switch {
	case fail != api.OK:
		return nil, 0, fail
	case n > uint64(max(most, 0)):
		return nil, 0, api.ErrLong
	case n > uint64(len(b)-at):
		return nil, 0, api.ErrShort
	}
	end := at + int(n)
	return bytes.Clone(b[at:end]), end, api.OK
}
