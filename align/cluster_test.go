package align

import (
	"slices"
	"testing"

	"grapevine/api"
)

// told is an edit with its side.
type told struct{ side, at int }

// P8.1, Ways: the edits that the iterator tells may be left at each one, that comes first when they are gone through again.
func TestEachLeft(t *testing.T) {
	want := []told{{left, 0}, {right, 1}, {right, 3}, {left, 4}, {left, 6}, {right, 9}}
	for stop := range len(want) + 1 {
		l := edits{{{At: 0, Del: 1}, {At: 4, Del: 1}, {At: 6, Del: 1}}, {{At: 1, Del: 1}, {At: 3, Del: 1}, {At: 9, Del: 1}}}
		var got []told
		for side, e := range l.each() {
			if len(got) == stop {
				break
			}
			got = append(got, told{side, e.At})
		}
		if l.some() != (stop < len(want)) {
			t.Errorf("left behind %d: some: %v", stop, l.some())
		}
		for side, e := range l.each() {
			got = append(got, told{side, e.At})
		}
		if !slices.Equal(got, want) || l.some() {
			t.Errorf("left behind %d: %v", stop, got)
		}
	}
	none := edits{nil, []api.Edit{}}
	for side, e := range none.each() {
		t.Errorf("an edit of none: %d, %v", side, e)
	}
}

// P8.1, Ways: a cluster ends at the first edit that meets none of it, and the next one begins with that.
func TestNext(t *testing.T) {
	l := edits{{{At: 2, Del: 2}, {At: 5, Ins: []string{"x", "y"}}, {At: 9, Del: 1}}, {{At: 4, Del: 1, Ins: []string{"z"}}, {At: 7}}}
	for i, want := range []cluster{
		{from: 2, to: 5, sides: [2]change{{edits: 2, more: 0}, {edits: 1, more: 0}}},
		{from: 7, to: 7, sides: [2]change{{}, {edits: 1}}},
		{from: 9, to: 10, sides: [2]change{{edits: 1, more: -1}, {}}},
		{},
	} {
		if c := l.next(); c != want {
			t.Errorf("%d: %v, not %v", i, c, want)
		}
	}
}
