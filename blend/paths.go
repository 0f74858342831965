package blend

import (
	"iter"

	"grapevine/api"
)

// paths are those that one of two trees has, or both, rising.
func paths(a, b []api.File) iter.Seq[string] {
	return func(yield func(string) bool) {
		i, k := 0, 0
		for i < len(a) || k < len(b) {
			path := first(a[i:], b[k:])
			i += begins(a[i:], path)
			k += begins(b[k:], path)
			if !yield(path) {
				return
			}
		}
	}
}

// first is the lesser one of the paths with which two trees begin; one of them may be empty.
func first(a, b []api.File) string {
	if len(a) == 0 || len(b) > 0 && b[0].Path < a[0].Path {
		return b[0].Path
	}
	return a[0].Path
}

// begins is how many files a tree begins with that have a path: one, or none.
func begins(t []api.File, path string) int {
	if len(t) > 0 && t[0].Path == path {
		return 1
	}
	return 0
}
