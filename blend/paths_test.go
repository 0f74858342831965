package blend

import (
	"slices"
	"testing"

	"grapevine/api"
)

// with are files with these paths, of a letter each.
func with(letters string) []api.File {
	var out []api.File
	for i := range letters {
		out = append(out, api.File{Path: letters[i : i+1]})
	}
	return out
}

// P11.1: the paths of both, rising, each one once; the same when they are gone through again, or left and begun anew.
func TestPaths(t *testing.T) {
	for _, x := range []struct{ a, b, want string }{
		{"", "", ""}, {"a", "", "a"}, {"", "a", "a"}, {"a", "a", "a"}, {"a", "b", "ab"}, {"b", "a", "ab"}, {"abc", "", "abc"}, {"", "abc", "abc"}, {"abc", "abc", "abc"}, {"ace", "bdf", "abcdef"}, {"bdf", "ace", "abcdef"}, {"abc", "def", "abcdef"}, {"def", "abc", "abcdef"}, {"abd", "bcd", "abcd"}, {"ad", "abcd", "abcd"}, {"bc", "abcd", "abcd"},
	} {
		both := paths(with(x.a), with(x.b))
		for left := range len(x.want) + 1 {
			got := ""
			for p := range both {
				if len(got) == left {
					break
				}
				got += p
			}
			if got != x.want[:left] {
				t.Errorf("%q, %q, left behind %d: %q", x.a, x.b, left, got)
			}
		}
		if got := slices.Collect(both); len(got) != len(x.want) {
			t.Errorf("%q, %q: %q", x.a, x.b, got)
		}
	}
}
