package tree

import (
	"grapevine/api"
	"grapevine/wire"
)

// form is a list's one: how many there are, and each one as it is told.
func form[T any](l []T, tell func(T) []byte) []byte {
	out := wire.Num(nil, uint64(len(l)))
	for _, x := range l {
		// Not put behind out by wire's calls: each of them copies what stands ahead.
		out = append(out, tell(x)...)
	}
	return out
}

// file is a file's form.
func file(f api.File) []byte {
	return wire.Text(wire.Text(nil, []byte(f.Path)), []byte(f.Text))
}

// files are so many that are read; those behind a fault are empty.
func files(r *wire.Reader, many int) []api.File {
	var out []api.File
	for range many {
		path := r.Text(MaxPath)
		text := r.Text(MaxText)
		out = append(out, api.File{Path: string(path), Text: string(text)})
	}
	return out
}
