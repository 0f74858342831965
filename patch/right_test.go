package patch

import "testing"

// P12.1: of conditions, none of which may hold, one that does is enough, wherever it stands.
func TestWrong(t *testing.T) {
	if wrong() || wrong(false) || wrong(false, false, false) {
		t.Error("none holds")
	}
	for i := range 4 {
		var conditions [4]bool
		conditions[i] = true
		if !wrong(conditions[:]...) || !wrong(conditions[i:]...) {
			t.Errorf("%v: one holds", conditions)
		}
	}
	if !wrong(true) || !wrong(true, true) {
		t.Error("all hold")
	}
}
