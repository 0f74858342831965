package merge

import (
	"slices"
	"strings"

	"grapevine/api"
)

// end is what an open line is closed by.
const end = "\n"

// tellers tell what a region's lines are, by its kind, in three lists.
func tellers(o, a, b []string) map[int]func(api.Region) []string {
	ours := func(r api.Region) []string { return cut(a, r.A) }
	theirs := func(r api.Region) []string { return cut(b, r.B) }
	marked := func(r api.Region) []string {
		return slices.Concat(
			[]string{Ours}, closed(cut(a, r.A)),
			[]string{Base}, closed(cut(o, r.O)),
			[]string{Middle}, closed(cut(b, r.B)),
			[]string{Theirs},
		)
	}
	return map[int]func(api.Region) []string{
		api.Stable: ours,
		api.Left:   ours,
		api.Right:  theirs,
		api.Both:   ours,
		api.Clash:  marked,
	}
}

// cut is a span's lines.
func cut(l []string, s api.Span) []string { return l[s.From : s.From+s.Many] }

// closed are lines with an end each.
func closed(l []string) []string {
	var out []string
	for _, line := range l {
		// lines.Closed isn't asked: to it a text of no bytes is closed, but here such a line is open.
		if !strings.HasSuffix(line, end) {
			line += end
		}
		out = append(out, line)
	}
	return out
}
