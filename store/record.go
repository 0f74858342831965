package store

import (
	"iter"

	"grapevine/api"
	"grapevine/digest"
	"grapevine/wire"
)

// check is how many bytes of its digest stand behind an object.
const check = 4

// longest is how many bytes are enough to tell whether a number's form stands there.
const longest = 10

// torn is the fault of a record of which just a front is there; a reader tells the same of a number.
const torn = api.ErrShort

// record is an object's on a disk, and how many bytes it has there; or its fault alone.
type record struct {
	object api.Object
	size   int
	fault  api.Errno
}

// form is an object's record as bytes.
func form(b []byte, id api.Id) []byte { return append(wire.Text(nil, b), id[:check]...) }

// records are those of a disk's bytes, in order; the last one may be torn, or wrong.
func records(b []byte) iter.Seq[record] {
	return func(yield func(record) bool) {
		for at := 0; at < len(b); {
			r := read(b[at:])
			at += r.size
			// Behind a fault nobody knows where the next one begins.
			if !yield(r) || r.fault != api.OK {
				return
			}
		}
	}
}

// read is the record that stands first; its body is a part of the bytes.
func read(b []byte) record {
	// A reader keeps what it is handed: all that is left would be copied for each record.
	front := b[:min(len(b), longest)]
	r := wire.Open(front)
	n := r.Num()
	rest := b[len(front)-r.Left():]
	switch {
	case r.Fail() != api.OK:
		return record{fault: r.Fail()}
	case n > MaxObject:
		return record{fault: api.ErrLong}
	case len(rest) < int(n)+check:
		return record{fault: torn}
	}
	body, sum := rest[:n], rest[n:n+check]
	id := digest.Of(body)
	if api.Id(sum) != id[:check] {
		return record{fault: api.ErrSum}
	}
	size := len(b) - len(rest) + len(body) + check
	return record{object: api.Object{Id: id, Body: body}, size: size}
}
