package hunk

import "grapevine/api"

// end is behind how many lines an edit ends.
func end(e api.Edit) int { return e.At + e.Del }

// together is how many of some edits, from the first one on, are in one hunk.
func together(l []api.Edit, around int) int {
	many := 1
	for many < len(l) && l[many].At-end(l[many-1]) <= 2*around {
		many++
	}
	return many
}

// one is a hunk of some edits. Its B is left open: it hangs on the hunks ahead.
func one(a []string, l []api.Edit, around int) api.Hunk {
	h := api.Hunk{A: max(l[0].At-around, 0)}
	at := h.A
	for _, e := range l {
		h.Lines = add(h.Lines, stays, a[at:e.At])
		h.Lines = add(h.Lines, goes, a[e.At:end(e)])
		h.Lines = add(h.Lines, comes, e.Ins)
		at = end(e)
	}
	h.Lines = add(h.Lines, stays, a[at:min(at+around, len(a))])
	h.An, h.Bn = count(h.Lines)
	return h
}
