package dag

import (
	"container/heap"

	"grapevine/api"
)

// node is one that is in.
type node struct {
	parents []api.Id
	level   int
}

// wait is one that waits: its parents, and how many of them, from the first on, are in for sure.
type wait struct {
	parents []api.Id
	sure    int
}

// waits tells whether one does.
func (d *Dag) waits(id api.Id) bool {
	_, ok := d.waiting[id]
	return ok
}

// flow has one that waits come in, if nothing keeps it, and then those that nothing keeps any more; they are told in that order.
func (d *Dag) flow(id api.Id) []api.Id {
	var came []api.Id
	var next ready
	// Of all that wait, those alone may come in that hung on the one that came last.
	for hung := []api.Id{id}; ; {
	all:
		for _, x := range hung {
			w := d.waiting[x]
			for i, p := range w.parents[w.sure:] {
				if !d.Has(p) {
					d.waiting[x] = wait{parents: w.parents, sure: w.sure + i}
					d.behind[p] = append(d.behind[p], x)
					continue all
				}
			}
			heap.Push(&next, x)
		}
		if len(next) == 0 {
			return came
		}
		least := heap.Pop(&next).(api.Id)
		d.enter(least)
		came = append(came, least)
		hung = d.behind[least]
		delete(d.behind, least)
	}
}

// enter has one be in that waited, and whose parents are all in.
func (d *Dag) enter(id api.Id) {
	n := node{parents: d.waiting[id].parents}
	for _, p := range n.parents {
		n.level = max(n.level, d.in[p].level+1)
		delete(d.heads, p)
	}
	delete(d.waiting, id)
	d.in[id] = n
	// Who stands on it isn't in yet.
	d.heads[id] = struct{}{}
}
