package unified

import (
	"strings"

	"grapevine/api"
	"grapevine/lines"
)

// A sign is the first byte of a hunk's line: what becomes of the line.
const (
	stays = ' '
	goes  = '-'
	comes = '+'
)

// reader reads a text's lines, one by one.
type reader struct {
	// read takes the next line, and tells whether it can stand there: it is head, or line.
	read       func(line string) bool
	hunks      []api.Hunk
	old, fresh int // how many lines the last hunk still lacks, on either side
}

// begin is a reader of a text's first line.
func begin() *reader {
	r := &reader{}
	r.read = r.head
	return r
}

// whole tells whether no hunk lacks lines.
func (r *reader) whole() bool { return r.old == 0 && r.fresh == 0 }

// head reads a line where a hunk must begin.
func (r *reader) head(line string) bool {
	h, ok := readHead(line)
	if !ok {
		return r.noEnd(line)
	}
	r.hunks = append(r.hunks, h)
	r.lack(h.An, h.Bn)
	return true
}

// line reads one where a hunk's lines must stand.
func (r *reader) line(line string) bool {
	old, fresh := sides(line)
	if old+fresh == 0 {
		return r.noEnd(line)
	}
	behind := line[0] == goes && strings.HasPrefix(r.ahead(), string(comes))
	if !lines.Closed(line) || behind || old > r.old || fresh > r.fresh {
		return false
	}
	h := &r.hunks[len(r.hunks)-1]
	h.Lines = append(h.Lines, line)
	r.lack(r.old-old, r.fresh-fresh)
	return true
}

// noEnd reads the line that takes the end of the one ahead away. What has lost its end, or isn't there, can't lose it.
func (r *reader) noEnd(line string) bool {
	ahead, closed := strings.CutSuffix(r.ahead(), end)
	if line != noEnd || !closed {
		return false
	}
	l := r.hunks[len(r.hunks)-1].Lines
	l[len(l)-1] = ahead
	return true
}

// ahead is the last line of the last hunk, or an empty text, if it has none yet.
func (r *reader) ahead() string {
	if len(r.hunks) == 0 {
		return ""
	}
	l := r.hunks[len(r.hunks)-1].Lines
	if len(l) == 0 {
		return ""
	}
	return l[len(l)-1]
}

// lack has the last hunk lack so many lines on either side: what the next line must be hangs on it.
func (r *reader) lack(old, fresh int) {
	r.old, r.fresh = old, fresh
	r.read = r.line
	if r.whole() {
		r.read = r.head
	}
}

// sides is how many lines one of a hunk is on the old side, and on the new one: one without a sign is on none.
func sides(line string) (old, fresh int) {
	switch line[0] {
	case stays:
		return 1, 1
	case goes:
		return 1, 0
	case comes:
		return 0, 1
	}
	return 0, 0
}
