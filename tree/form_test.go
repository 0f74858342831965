package tree

import (
	"testing"

	"grapevine/wire"
)

// P10.3: a list's form is how many there are, and each one, in order, as it is told, whatever kind it is of.
func TestForm(t *testing.T) {
	number := func(n uint64) []byte { return wire.Num(nil, n) }
	nothing := func(string) []byte { return nil }
	if b := form([]uint64{300, 0, 1}, number); string(b) != "\x03\xac\x02\x00\x01" {
		t.Errorf("%x", b)
	}
	if b := form(make([]string, 300), nothing); string(b) != "\xac\x02" {
		t.Errorf("%x", b)
	}
	if b := form(nil, number); string(b) != "\x00" {
		t.Errorf("%x", b)
	}
}
