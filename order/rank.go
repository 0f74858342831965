package order

import (
	"cmp"
	"slices"

	"grapevine/api"
	"grapevine/dag"
)

// rank holds ids of a graph against each other.
type rank struct{ d *dag.Dag }

// compare is below 0, if a's rank is less than b's, 0, if they are one, and else above 0.
func (r rank) compare(a, b api.Id) int {
	return cmp.Or(cmp.Compare(r.d.Level(a), r.d.Level(b)), cmp.Compare(a, b))
}

// below are those of some ids that are in, and all on which they stand.
func below(d *dag.Dag, l []api.Id) map[api.Id]struct{} {
	out := map[api.Id]struct{}{}
	// A list, and no calls within calls: the way down may be as long as there are ids.
	for todo := slices.Clone(l); len(todo) > 0; {
		id := todo[len(todo)-1]
		todo = todo[:len(todo)-1]
		if _, ok := out[id]; ok || !d.Has(id) {
			continue
		}
		out[id] = struct{}{}
		todo = append(todo, d.Parents(id)...)
	}
	return out
}
