package diff

import "grapevine/api"

// alike is how many in a row, of so many at most, are the same on both sides.
func alike(most int, same func(i int) bool) int {
	many := 0
	for many < most && same(many) {
		many++
	}
	return many
}

// add has an edit stand behind others, if it has a line that goes, or comes.
func add(l []api.Edit, at, del int, ins []string) []api.Edit {
	if del == 0 && len(ins) == 0 {
		return l
	}
	// The lines are copied: what is answered shares nothing with what was handed in.
	return append(l, api.Edit{At: at, Del: del, Ins: append([]string(nil), ins...)})
}

// walk is the way from x to y line by line, behind a front that both have.
func walk(front int, x, y []string) []api.Edit {
	var out []api.Edit
	common := longest(x, y)
	i, j := 0, 0 // how many lines of each are gone through
	p, q := 0, 0 // how many were, when one stayed last
	for i < len(x) || j < len(y) {
		switch {
		case i < len(x) && j < len(y) && x[i] == y[j]:
			out = add(out, front+p, i-p, y[q:j])
			i, j = i+1, j+1
			p, q = i, j
		case j == len(y) || i < len(x) && common.at(i+1, j) >= common.at(i, j+1):
			i++
		default:
			j++
		}
	}
	return add(out, front+p, i-p, y[q:j])
}

// table has for each place in two lists how long the longest common subsequence of what is left of both is.
type table struct {
	wide  int
	cells []int
}

// at is how long it is behind i lines of the first list, and j of the second one.
func (t table) at(i, j int) int { return t.cells[i*t.wide+j] }

// longest is the table of two lists.
func longest(x, y []string) table {
	t := table{wide: len(y) + 1, cells: make([]int, (len(x)+1)*(len(y)+1))}
	for i := len(x) - 1; i >= 0; i-- {
		for j := len(y) - 1; j >= 0; j-- {
			best := max(t.at(i+1, j), t.at(i, j+1))
			if x[i] == y[j] {
				best = t.at(i+1, j+1) + 1
			}
			t.cells[i*t.wide+j] = best
		}
	}
	return t
}
