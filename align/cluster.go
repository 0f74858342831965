package align

import (
	"iter"
	"slices"

	"grapevine/api"
)

// The sides, by their places in what has one of each.
const (
	left = iota
	right
)

// edits are those of two sides that are still to be gone through.
type edits [2][]api.Edit

// some tells whether there are any.
func (l *edits) some() bool { return len(l[left]) > 0 || len(l[right]) > 0 }

// side is the one that has the next edit, by its place; of two at one place either may come first, since they meet.
func (l *edits) side() int {
	switch {
	case len(l[left]) == 0:
		return right
	case len(l[right]) == 0 || l[left][0].At <= l[right][0].At:
		return left
	}
	return right
}

// each tells them by their places, with their sides. The one at which it is left isn't gone through, and comes first the next time.
func (l *edits) each() iter.Seq2[int, api.Edit] {
	return func(yield func(int, api.Edit) bool) {
		for l.some() {
			side := l.side()
			if !yield(side, l[side][0]) {
				return
			}
			l[side] = l[side][1:]
		}
	}
}

// next is the next cluster, up to the first edit that meets none of it.
func (l *edits) next() cluster {
	var c cluster
cluster:
	for side, e := range l.each() {
		switch {
		case c.none():
			c.from = e.At
		case e.At > c.to:
			break cluster
		}
		c.take(side, e)
	}
	return c
}

// cluster is edits that meet, and the lines of o that they have together.
type cluster struct {
	from, to int
	sides    [2]change
}

// change is what one side's edits of a cluster do.
type change struct {
	edits int // how many they are
	more  int // how many lines more come than go
}

// none tells whether it has no edit.
func (c *cluster) none() bool { return c.sides[left].edits == 0 && c.sides[right].edits == 0 }

// take has an edit be one of it, that isn't ahead of those it has.
func (c *cluster) take(side int, e api.Edit) {
	c.to = max(c.to, e.At+e.Del)
	c.sides[side].edits++
	c.sides[side].more += len(e.Ins) - e.Del
}

// kind is what it is, with its lines on both sides.
func (c *cluster) kind(a, b []string) int {
	switch {
	case c.none():
		return api.Stable
	case c.sides[right].edits == 0:
		return api.Left
	case c.sides[left].edits == 0:
		return api.Right
	case slices.Equal(a, b):
		return api.Both
	}
	return api.Clash
}
