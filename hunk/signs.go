package hunk

// A sign is a line's first byte: what becomes of the line.
const (
	stays = ' '
	goes  = '-'
	comes = '+'
	signs = " -+"
)

// sign is a line's one. An empty line has none: 0 is no sign.
func sign(line string) byte {
	if line == "" {
		return 0
	}
	return line[0]
}

// count is how many lines there are on the old side, and on the new one.
func count(l []string) (old, fresh int) {
	for _, line := range l {
		switch sign(line) {
		case goes:
			old++
		case stays:
			old++
			fallthrough
		case comes:
			fresh++
		}
	}
	return old, fresh
}

// add has lines stand behind others, with a sign.
func add(l []string, sign byte, lines []string) []string {
	for _, line := range lines {
		l = append(l, string(sign)+line)
	}
	return l
}

// bare is lines without their signs.
func bare(l []string) []string {
	var out []string
	for _, line := range l {
		out = append(out, line[1:])
	}
	return out
}

// part is lines in a row: those that stay, behind them those that go, and behind these those that come.
type part struct{ stay, gone, come []string }

// parts is a right hunk's lines, part by part: none that goes stands behind one that comes there.
func parts(l []string) []part {
	var out []part
	for rest := l; len(rest) > 0; {
		var p part
		p.stay, rest = front(rest, stays)
		p.gone, rest = front(rest, goes)
		p.come, rest = front(rest, comes)
		out = append(out, p)
	}
	return out
}

// front is the lines that have a sign, from the first one on, and what is behind them.
func front(l []string, want byte) (with, rest []string) {
	many := 0
	for many < len(l) && sign(l[many]) == want {
		many++
	}
	return l[:many], l[many:]
}
