package patch

import (
	"grapevine/api"
	"grapevine/tree"
	"grapevine/wire"
)

// reader reads a patch, and keeps what its embedded reader can't know to be wrong.
type reader struct {
	*wire.Reader
	long bool // more of something were told than may be
	odd  bool // what tells whether a file is gone told neither
}

// open is a reader of bytes.
func open(b []byte) *reader { return &reader{Reader: wire.Open(b)} }

// patch is the one that is read; what is behind a fault in it is empty.
func (r *reader) patch() api.Patch {
	var p api.Patch
	for range r.many(MaxParents) {
		p.Parents = append(p.Parents, api.Id(r.Text(idBytes)))
	}
	p.Author = string(r.Text(MaxAuthor))
	p.Note = string(r.Text(MaxNote))
	for range r.many(MaxChanges) {
		p.Changes = append(p.Changes, r.change())
	}
	return p
}

// many is how many are told to follow; none, if there are more than may be.
func (r *reader) many(most uint64) int {
	n := r.Num()
	if n > most {
		r.long = true
		return 0
	}
	return int(n)
}

// change is the next change.
func (r *reader) change() api.Change {
	path := r.Text(tree.MaxPath)
	what := r.Num()
	text := r.Text(tree.MaxText)
	if what != stays && what != gone {
		r.odd = true
	}
	return api.Change{Path: string(path), Gone: what == gone, Text: string(text)}
}

// fault is why what was read is no form, so far as its reader knows.
func (r *reader) fault() api.Errno {
	// Ahead of why the reader failed: one that had failed by then told no number above a limit.
	if r.long {
		return api.ErrLong
	}
	return r.End()
}
