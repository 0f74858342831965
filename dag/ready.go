package dag

import "grapevine/api"

// ready are ids that may come in, as a heap: the least one is taken first.
type ready []api.Id

// Len is how many.
func (r ready) Len() int { return len(r) }

// Less tells which of two is taken first.
func (r ready) Less(i, j int) bool { return r[i] < r[j] }

// Swap has two change places.
func (r ready) Swap(i, j int) { r[i], r[j] = r[j], r[i] }

// Push has one be the last.
func (r *ready) Push(x any) { *r = append(*r, x.(api.Id)) }

// Pop takes the last one away.
func (r *ready) Pop() any {
	l := *r
	x := l[len(l)-1]
	*r = l[:len(l)-1]
	return x
}
