package unified

import (
	"strconv"
	"strings"

	"grapevine/api"
	"grapevine/hunk"
	"grapevine/lines"
)

// bits is how many a number that is told may have.
const bits = 31

// What a head has around its numbers, and between them.
const (
	opens  = "@@ -"
	comma  = ","
	plus   = " +"
	closes = " @@" + end
)

// tellable tells whether a hunk can be told.
func tellable(h api.Hunk) bool {
	if !hunk.Right(h) || !small(h.A, h.An) || !small(h.B, h.Bn) {
		return false
	}
	for _, line := range h.Lines {
		// A right hunk's line has its sign at least: no bytes, that are no line, can't be here.
		if lines.Count(line) != 1 {
			return false
		}
	}
	return true
}

// small tells whether a side's numbers can be told. at is asked for too, not its place alone: one more than the greatest int goes round.
func small(at, many int) bool {
	return max(at, many, place(at, many)) < 1<<bits
}

// place is where a side of a hunk is told to be: at its first line, or, if it has none, at the line ahead.
func place(at, many int) int { return at + min(many, 1) }

// head is a hunk's one.
func head(h api.Hunk) string {
	return opens + side(h.A, h.An) + plus + side(h.B, h.Bn) + closes
}

// side is what a head tells of one side.
func side(at, many int) string {
	return strconv.Itoa(place(at, many)) + comma + strconv.Itoa(many)
}

// readHead is the hunk, still without lines, that a line is the head of.
func readHead(line string) (api.Hunk, bool) {
	rest := strings.TrimSuffix(strings.TrimPrefix(line, opens), closes)
	old, fresh, _ := strings.Cut(rest, plus)
	var h api.Hunk
	h.A, h.An = readSide(old)
	h.B, h.Bn = readSide(fresh)
	// A head has one form: whatever was amiss, or too much, what is told again isn't the line.
	return h, h.A >= 0 && h.B >= 0 && head(h) == line
}

// readSide is behind how many lines a side is, and how many it has.
func readSide(s string) (at, many int) {
	x, n, _ := strings.Cut(s, comma)
	many = readNumber(n)
	return readNumber(x) - place(0, many), many
}

// readNumber is a number told in digits. Where there is none, or too great a one, it is another number: told again it differs.
func readNumber(s string) int {
	n, _ := strconv.ParseUint(s, 10, bits)
	return int(n)
}
