package order

import (
	"testing"

	"grapevine/api"
	"grapevine/dag"
)

// P16.2: ids are held against each other by level, and, of one level, byte by byte.
func TestCompare(t *testing.T) {
	d := dag.New()
	d.Add("m", nil)
	d.Add("z", nil)
	d.Add("a", []api.Id{"m"})
	d.Add("b", []api.Id{"m", "z"})
	d.Add("", []api.Id{"a"})
	l := []api.Id{"m", "z", "a", "b", ""}
	for i, a := range l {
		for j, b := range l {
			if got := (rank{d}).compare(a, b); (got < 0) != (i < j) || (got > 0) != (i > j) {
				t.Errorf("%q, %q: %d", a, b, got)
			}
		}
	}
}
