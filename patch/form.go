package patch

import (
	"grapevine/api"
	"grapevine/wire"
)

// What tells in a change's form whether its file is gone.
const (
	stays = 0
	gone  = 1
)

// form is a patch's one.
func form(p api.Patch) []byte {
	out := wire.Num(nil, uint64(len(p.Parents)))
	for _, id := range p.Parents {
		out = wire.Text(out, []byte(id))
	}
	out = wire.Text(out, []byte(p.Author))
	out = wire.Text(out, []byte(p.Note))
	out = wire.Num(out, uint64(len(p.Changes)))
	for _, c := range p.Changes {
		// Not put behind out by wire's calls: each of them copies what stands ahead, and texts may be long.
		out = append(out, change(c)...)
	}
	return out
}

// change is a change's form.
func change(c api.Change) []byte {
	what := uint64(stays)
	if c.Gone {
		what = gone
	}
	return wire.Text(wire.Num(wire.Text(nil, []byte(c.Path)), what), []byte(c.Text))
}
