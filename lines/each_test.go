package lines

import (
	"slices"
	"testing"
)

// P3.1, Ways: the lines that the iterator tells may be left at each one, and gone through again.
func TestEachLeft(t *testing.T) {
	want := []string{"a\n", "\n", "b\n", "c"}
	told := each("a\n\nb\nc")
	for stop := range len(want) + 1 {
		var got []string
		for line := range told {
			if len(got) == stop {
				break
			}
			got = append(got, line)
		}
		if !slices.Equal(got, want[:stop]) {
			t.Errorf("left behind %d: %q", stop, got)
		}
	}
	for line := range each("") {
		t.Errorf("a line of no text: %q", line)
	}
}
