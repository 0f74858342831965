package store

import (
	"testing"

	"grapevine/api"
	"grapevine/digest"
)

// joined is some objects' records.
func joined(l ...string) string {
	out := ""
	for _, s := range l {
		out += string(form([]byte(s), digest.Of([]byte(s))))
	}
	return out
}

// P14.1: records are told one by one, may be left amid, and gone through again.
func TestRecords(t *testing.T) {
	b := joined("abc", "", "de")
	all := records([]byte(b))
	for range 2 {
		for many := range 5 {
			seen := 0
			for r := range all {
				if r.fault != api.OK || r.object.Id != digest.Of(r.object.Body) || r.size != len(r.object.Body)+5 {
					t.Fatalf("record %d: %+v", seen, r)
				}
				if seen++; seen > many {
					break
				}
			}
			if seen != min(many+1, 3) {
				t.Errorf("left behind %d: %d were told", many, seen)
			}
		}
	}
	for range records(nil) {
		t.Error("a record of no bytes")
	}
}

// P14.1: the one that is torn, or wrong, is told last, by its fault alone; who goes on is told no more.
func TestRecordsEnd(t *testing.T) {
	for _, x := range []struct {
		b    string
		want api.Errno
	}{
		{"\x80", torn}, {"\x03ab", torn}, {"\x00\xe3\xb0\xc4", torn},
		{"\x80\x00", api.ErrForm}, {"\x81\x80\x08", api.ErrLong}, {"\x00wrong", api.ErrSum}, {"\x00wrong" + joined("abc"), api.ErrSum},
	} {
		many := 0
		var last record
		for r := range records([]byte(joined("abc", "x") + x.b)) {
			many++
			last = r
		}
		if many != 3 || last.fault != x.want || last.size != 0 || last.object.Id != "" || last.object.Body != nil {
			t.Errorf("%x: %d were told, the last one %+v", x.b, many, last)
		}
	}
}

// P14.1: a store has the objects up to the fault, and tells how many bytes they have.
func TestFill(t *testing.T) {
	for _, x := range []struct {
		b     string
		many  int
		size  int
		fault api.Errno
	}{
		{"", 0, 0, api.OK}, {joined("abc", "x"), 2, 14, api.OK}, {joined("abc") + "\x05a", 1, 8, torn},
		{joined("abc", "x", "abc", "y"), 2, 14, api.ErrForm}, {joined("abc") + "\x00wrong", 1, 8, api.ErrSum},
	} {
		s := &Store{places: map[api.Id]int{}}
		if size, fault := s.fill([]byte(x.b)); size != x.size || fault != x.fault || s.Many() != x.many || len(s.places) != x.many {
			t.Errorf("%x: size %d, fault %d, %d objects", x.b, size, fault, s.Many())
		}
	}
}
