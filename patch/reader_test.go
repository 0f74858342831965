package patch

import (
	"testing"

	"grapevine/api"
)

// P12.2: what the embedded reader has read and knows is asked of the one that reads patches, and the other way round.
func TestReader(t *testing.T) {
	r := open([]byte("\x02\x01a\x05"))
	if n := r.many(2); n != 2 || r.Left() != 3 {
		t.Error(n, r.Left())
	}
	if x := r.Text(1); string(x) != "a" || r.Reader.Left() != 1 || r.fault() != api.ErrTail {
		t.Errorf("%q, %d, %d", x, r.Reader.Left(), r.fault())
	}
	if n := r.many(4); n != 0 || r.fault() != api.ErrLong || r.Fail() != api.OK {
		t.Error(n, r.fault(), r.Fail())
	}
	// The number was too great ahead of whatever fails behind it.
	if n := r.Num(); n != 0 || r.fault() != api.ErrLong || r.Fail() != api.ErrShort {
		t.Error(n, r.fault(), r.Fail())
	}
}
