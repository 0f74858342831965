package patch

import (
	"slices"

	"grapevine/api"
	"grapevine/tree"
)

// idBytes is how many bytes a patch's name has.
const idBytes = 32

// wrong tells whether one of some conditions holds, none of which may.
func wrong(conditions ...bool) bool {
	return slices.Contains(conditions, true)
}

// within tells whether a patch is right, but for its form's length.
func within(p api.Patch) bool {
	return !wrong(
		len(p.Parents) > MaxParents,
		!rising(p.Parents),
		len(p.Author) > MaxAuthor,
		len(p.Note) > MaxNote,
		len(p.Changes) > MaxChanges,
		!possible(p.Changes),
	)
}

// rising tells whether parents are names, each above the one ahead of it.
func rising(l []api.Id) bool {
	last := api.Id("") // below each name
	for _, id := range l {
		if wrong(len(id) != idBytes, id <= last) {
			return false
		}
		last = id
	}
	return true
}

// possible tells whether changes can be, each with a path above that of the one ahead of it.
func possible(l []api.Change) bool {
	last := "" // below each path that can be
	for _, c := range l {
		if wrong(!tree.Path(c.Path), c.Path <= last, len(c.Text) > tree.MaxText, c.Gone && c.Text != "") {
			return false
		}
		last = c.Path
	}
	return true
}
