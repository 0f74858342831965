package dag

import (
	"container/heap"
	"slices"
	"testing"

	"grapevine/api"
)

// P15.2: keys rise, whatever they are, and whatever stands by them.
func TestRising(t *testing.T) {
	if l := rising(map[int]string{3: "a", -1: "b", 2: ""}); !slices.Equal(l, []int{-1, 2, 3}) {
		t.Error(l)
	}
	if l := rising(map[api.Id]struct{}{"b": {}, "": {}, "ab": {}, "a": {}, "\xff": {}}); !slices.Equal(l, []api.Id{"", "a", "ab", "b", "\xff"}) {
		t.Errorf("%q", l)
	}
	if l := rising(map[string]int(nil)); len(l) != 0 {
		t.Error(l)
	}
}

// P15.1: of those that may come in the least one is taken first, also where more come meanwhile.
func TestReady(t *testing.T) {
	var r ready
	for _, x := range []struct {
		more string
		want api.Id
	}{{"dbe", "b"}, {"ca", "a"}, {"", "c"}, {"", "d"}, {"f", "e"}, {"", "f"}} {
		for _, c := range []byte(x.more) {
			heap.Push(&r, api.Id([]byte{c}))
		}
		if id := heap.Pop(&r).(api.Id); id != x.want {
			t.Errorf("%q, not %q", id, x.want)
		}
	}
	if len(r) != 0 {
		t.Errorf("%q", r)
	}
}

// P15.1: who waits hangs behind one alone, its first parent that isn't in; nothing is kept of it once it is in.
func TestHang(t *testing.T) {
	d := New()
	for _, x := range []struct {
		id      api.Id
		parents []api.Id
		behind  api.Id
		sure    int
	}{{"w", []api.Id{"d", "c", "a", "b"}, "a", 0}, {"b", nil, "a", 0}, {"a", nil, "c", 2}, {"c", nil, "d", 3}} {
		d.Add(x.id, x.parents)
		if len(d.behind) != 1 || !slices.Equal(d.behind[x.behind], []api.Id{"w"}) || d.waiting["w"].sure != x.sure || len(d.waiting) != 1 {
			t.Errorf("behind %q: %q; %d are in", x.id, d.behind, d.waiting["w"].sure)
		}
	}
	d.Add("d", nil)
	if len(d.behind) != 0 || len(d.waiting) != 0 || len(d.heads) != 1 {
		t.Errorf("%q, %v", d.behind, d.waiting)
	}
}
