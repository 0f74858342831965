package tree

import (
	"slices"
	"strings"

	"grapevine/api"
)

// Bytes that no path has are those below blank, and erase.
const (
	blank = 32
	erase = 127
)

// Path tells whether one can be.
func Path(p string) bool {
	// An empty one needs no case of its own: it is one empty part.
	if len(p) > MaxPath {
		return false
	}
	for i := range len(p) {
		if p[i] < blank || p[i] == erase {
			return false
		}
	}
	for _, part := range strings.Split(p, "/") {
		if part == "" || part == "." || part == ".." {
			return false
		}
	}
	return true
}

// place is where the file with a path stands: from which one on, and below which one; both are the same where it would stand, if there is none.
func place(t []api.File, path string) (from, to int) {
	from, found := slices.BinarySearchFunc(t, path, func(f api.File, path string) int {
		return strings.Compare(f.Path, path)
	})
	if found {
		return from, from + 1
	}
	return from, from
}
