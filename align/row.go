package align

import (
	"slices"

	"grapevine/api"
)

// row is lines that are gone through span by span.
type row struct {
	lines []string
	at    int // how many are gone through
}

// next is the span of so many lines more.
func (r *row) next(many int) api.Span { return api.Span{From: r.at, Many: many} }

// follows tells whether a span goes on where the one ahead ended, with lines that are there.
func (r *row) follows(s api.Span) bool {
	// Taken away, not added: a Many may be as great as an int can be.
	return s.From == r.at && s.Many >= 0 && s.Many <= len(r.lines)-r.at
}

// take goes through a span that follows, and is its lines.
func (r *row) take(s api.Span) []string {
	r.at += s.Many
	return r.lines[s.From:r.at]
}

// ended tells whether all lines are gone through.
func (r *row) ended() bool { return r.at == len(r.lines) }

// holds tells whether a region's lines are what its kind says.
func holds(kind int, o, a, b []string) bool {
	switch kind {
	case api.Stable:
		return slices.Equal(o, a) && slices.Equal(o, b)
	case api.Left:
		return slices.Equal(o, b)
	case api.Right:
		return slices.Equal(o, a)
	case api.Both:
		return slices.Equal(a, b)
	}
	return kind == api.Clash
}
