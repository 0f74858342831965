package apply

import "grapevine/api"

// A sign is the first byte of a hunk's line: what becomes of the line. One with neither of these stays.
const (
	goes  = '-'
	comes = '+'
)

// work is lines that hunks are being done to.
type work struct {
	old   []string
	at    int // how many old lines are gone through
	fresh []string
	wrong api.Errno
}

// run does hunks to the lines, up to what is wrong first.
func (w *work) run(l []api.Hunk) {
	defer func() {
		// What is wrong was kept ahead of the panic; beside it no lines are told.
		if recover() != nil {
			w.fresh = nil
		}
	}()
	if !Right(l) {
		w.fail(api.ErrForm)
	}
	for _, h := range l {
		w.do(h)
	}
	w.keep(len(w.old))
}

// fail keeps what is wrong, and leaves all that is being done.
func (w *work) fail(e api.Errno) {
	w.wrong = e
	panic(e)
}

// do does a hunk.
func (w *work) do(h api.Hunk) {
	w.keep(h.A)
	for _, line := range h.Lines {
		// A right hunk's line has its sign at least.
		sign, rest := line[0], line[1:]
		if sign != comes {
			w.take(rest)
		}
		if sign != goes {
			w.fresh = append(w.fresh, rest)
		}
	}
}

// keep has the old lines up to a place stay.
func (w *work) keep(to int) {
	if to > len(w.old) {
		w.fail(api.ErrContext)
	}
	w.fresh = append(w.fresh, w.old[w.at:to]...)
	w.at = to
}

// take goes through the next old line, that must be this one.
func (w *work) take(line string) {
	if w.at == len(w.old) || w.old[w.at] != line {
		w.fail(api.ErrContext)
	}
	w.at++
}
