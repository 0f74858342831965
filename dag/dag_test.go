package dag_test

import (
	"math/rand"
	"slices"
	"strconv"
	"strings"
	"sync"
	"testing"

	"grapevine/api"
	"grapevine/dag"
)

// ids is letters as ids.
func ids(s string) []api.Id {
	var out []api.Id
	for _, x := range []byte(s) {
		out = append(out, api.Id([]byte{x}))
	}
	return out
}

// texts is ids as they are shown.
func texts(l []api.Id) []string {
	var out []string
	for _, id := range l {
		out = append(out, strconv.Quote(string(id)))
	}
	return out
}

// one is an id, and what it is added with.
type one struct {
	id      api.Id
	parents []api.Id
}

// model is a graph by what the document says of it: who is in, in the order in which they came, and who waits.
type model struct{ in, waiting []one }

func find(l []one, id api.Id) int {
	return slices.IndexFunc(l, func(x one) bool { return x.id == id })
}

// all tells whether all parents of one are in.
func (m *model) all(x one) bool {
	for _, p := range x.parents {
		if find(m.in, p) < 0 {
			return false
		}
	}
	return true
}

func (m *model) add(x one) []api.Id {
	if find(m.in, x.id) >= 0 || find(m.waiting, x.id) >= 0 {
		return nil
	}
	if !m.all(x) {
		m.waiting = append(m.waiting, x)
		return nil
	}
	m.in = append(m.in, x)
	came := []api.Id{x.id}
	for {
		least := -1
		for i, w := range m.waiting {
			if m.all(w) && (least < 0 || w.id < m.waiting[least].id) {
				least = i
			}
		}
		if least < 0 {
			return came
		}
		came = append(came, m.waiting[least].id)
		m.in = append(m.in, m.waiting[least])
		m.waiting = slices.Delete(m.waiting, least, least+1)
	}
}

// pick is those of some texts that something holds for, rising, each once.
func pick(l []one, holds func(id api.Id) bool) []api.Id {
	var out []api.Id
	for _, x := range l {
		for _, id := range append([]api.Id{x.id}, x.parents...) {
			if holds(id) && !slices.Contains(out, id) {
				out = append(out, id)
			}
		}
	}
	slices.SortFunc(out, func(a, b api.Id) int { return slices.Compare([]byte(a), []byte(b)) })
	return out
}

func (m *model) ids() []api.Id {
	return pick(m.in, func(id api.Id) bool { return find(m.in, id) >= 0 })
}

func (m *model) waits() []api.Id {
	return pick(m.waiting, func(id api.Id) bool { return find(m.waiting, id) >= 0 })
}

func (m *model) lacks() []api.Id {
	return pick(m.waiting, func(id api.Id) bool { return find(m.in, id) < 0 && find(m.waiting, id) < 0 })
}

func (m *model) heads() []api.Id {
	return pick(m.in, func(id api.Id) bool {
		return !slices.ContainsFunc(m.in, func(x one) bool { return slices.Contains(x.parents, id) })
	})
}

func (m *model) parents(id api.Id) []api.Id {
	at := find(m.in, id)
	if at < 0 {
		return nil
	}
	return pick(m.in[at:at+1], func(p api.Id) bool { return slices.Contains(m.in[at].parents, p) })
}

func (m *model) level(id api.Id) int {
	if find(m.in, id) < 0 {
		return -1
	}
	most := -1
	for _, p := range m.parents(id) {
		most = max(most, m.level(p))
	}
	return most + 1
}

func (m *model) above(a, b api.Id) bool {
	if find(m.in, a) < 0 || find(m.in, b) < 0 {
		return false
	}
	return a == b || slices.ContainsFunc(m.parents(b), func(p api.Id) bool { return m.above(a, p) })
}

// holds holds all that a graph tells against what it should, for each of some ids.
func holds(t *testing.T, d *dag.Dag, m *model, l []api.Id, what string) {
	t.Helper()
	for _, x := range []struct {
		name      string
		got, want []api.Id
	}{{"Ids", d.Ids(), m.ids()}, {"Waiting", d.Waiting(), m.waits()}, {"Lacks", d.Lacks(), m.lacks()}, {"Heads", d.Heads(), m.heads()}} {
		if !slices.Equal(x.got, x.want) {
			t.Fatalf("%s: %s %q, not %q", what, x.name, x.got, x.want)
		}
	}
	if d.Many() != len(m.in) {
		t.Fatalf("%s: Many %d, not %d", what, d.Many(), len(m.in))
	}
	for _, a := range l {
		if d.Has(a) != (find(m.in, a) >= 0) || !slices.Equal(d.Parents(a), m.parents(a)) || d.Level(a) != m.level(a) {
			t.Fatalf("%s: of %q: %v, %q, level %d", what, a, d.Has(a), d.Parents(a), d.Level(a))
		}
		for _, b := range l {
			if d.Above(a, b) != m.above(a, b) {
				t.Fatalf("%s: Above(%q, %q) %v", what, a, b, d.Above(a, b))
			}
		}
	}
}

// play has a graph, and a model, do the same, and holds them against each other behind each step.
func play(t *testing.T, row []one, l []api.Id) *dag.Dag {
	t.Helper()
	d, m := dag.New(), &model{}
	holds(t, d, m, l, "new")
	for i, x := range row {
		what := strconv.Itoa(i) + " of " + show(row)
		if got, want := d.Add(x.id, x.parents), m.add(x); !slices.Equal(got, want) {
			t.Fatalf("%s: Add %q, not %q", what, got, want)
		}
		holds(t, d, m, l, what)
	}
	return d
}

// show is a row of what is added, as a text.
func show(row []one) string {
	s := ""
	for _, x := range row {
		s += strconv.Quote(string(x.id)) + "[" + strings.Join(texts(x.parents), " ") + "] "
	}
	return s
}

// some are those of a list whose bits a number has.
func some(l []api.Id, bits int) []api.Id {
	var out []api.Id
	for i, id := range l {
		if bits>>i&1 == 1 {
			out = append(out, id)
		}
	}
	return out
}

// P15.1: the document's example, and who comes in with whom, in which order.
func TestAdd(t *testing.T) {
	for _, x := range []struct{ row, came string }{
		{"b:a a:", ",ab"},
		{"a: b:a c:b", "a,b,c"},
		{"c:b b:a a:", ",,abc"},
		{"b:a c:a d:a a:", ",,,abcd"},
		{"d:a c:a b:a a:", ",,,abcd"},
		{"a:z m:z b:m c:m z:", ",,,,zambc"}, // "a" is ready behind "m" alone: then it is less than "b"
		{"y:z x:z b:x a:y c:xy z:", ",,,,,zxbyac"},
		{"m:z a:m z:", ",,zma"},
		{"b:z a:b c:z z:", ",,,zbac"}, // "a" is ready behind "b" alone: then it is less than "c"
		{"d:abc a: b: c:", ",a,b,cd"},
		{"d:cba c: b: a:", ",c,b,ad"},
		{"d:bbabb b: a:", ",b,ad"},
		{"a:a a:", ","},
		{"a:a b:a b:", ",,"},
		{"a:b b:a c:ab z:", ",,,z"},
		{"a:b b:a a: b:", ",,,"},
		{"b:az a: b: z:", ",a,,zb"}, // a second Add of who waits, without parents, does nothing
		{"a: a:b b: a:", "a,,b,"},
		{"c:ab a: x:c b: x:", ",a,,bcx,"},
		{"a:b b:c c:ab c:", ",,,"},
	} {
		d := dag.New()
		var row []string
		for _, s := range strings.Fields(x.row) {
			id, parents, _ := strings.Cut(s, ":")
			came := ""
			for _, id := range d.Add(api.Id(id), ids(parents)) {
				came += string(id)
			}
			row = append(row, came)
		}
		if got := strings.Join(row, ","); got != x.came {
			t.Errorf("%s: %s, not %s", x.row, got, x.came)
		}
	}
}

// P15.1 to P15.4: each graph of three ids, of which one is empty, that stand on any of these, and on one that never comes, in each order.
func TestEach(t *testing.T) {
	l := []api.Id{"", "a", "b", "z"}
	for _, order := range [][]int{{0, 1, 2}, {0, 2, 1}, {1, 0, 2}, {1, 2, 0}, {2, 0, 1}, {2, 1, 0}} {
		for bits := range 1 << 12 {
			row := make([]one, 3)
			for i, at := range order {
				row[i] = one{l[at], some(l, bits>>(4*at)&15)}
			}
			play(t, row, l)
		}
	}
}

// P15.1 to P15.4: each graph of four ids, in each of some orders: each stands on those alone that may be ahead of it in a line.
func TestEachOfFour(t *testing.T) {
	l := ids("abcd")
	for _, line := range []string{"abcd", "dcba", "bdac", "cadb"} {
		for _, order := range [][]int{{0, 1, 2, 3}, {3, 2, 1, 0}, {1, 3, 0, 2}, {2, 3, 1, 0}, {3, 0, 2, 1}} {
			for bits := range 1 << 6 {
				all := []one{{ids(line)[0], nil}, {ids(line)[1], some(ids(line), bits&1)}, {ids(line)[2], some(ids(line), bits>>1&3)}, {ids(line)[3], some(ids(line), bits>>3&7)}}
				row := make([]one, 4)
				for i, at := range order {
					row[i] = all[at]
				}
				if d := play(t, row, l); d.Many() != 4 {
					t.Fatalf("%s: %q are in", show(row), d.Ids())
				}
			}
		}
	}
}

// P15.1 to P15.4: greater graphs, with rings, ids that never come, ids that come twice, with other parents, and parents in any order, some of them twice.
func TestMany(t *testing.T) {
	r := rand.New(rand.NewSource(15))
	for range 400 {
		n := 1 + r.Intn(14)
		var l []api.Id
		for i := range n {
			// Ids of which some begin with others, and whose bytes are above 127, too.
			l = append(l, api.Id(strings.Repeat(string([]byte{byte(r.Intn(3) * 127)}), r.Intn(3))+strconv.Itoa(i)))
		}
		var row []one
		for range n + r.Intn(n) {
			at := r.Intn(n)
			x := one{id: l[at]}
			for range r.Intn(4) {
				p := r.Intn(n)
				if r.Intn(9) > 0 {
					p = r.Intn(at + 1) // most often no ring
				}
				if p != at || r.Intn(9) == 0 {
					x.parents = append(x.parents, l[p])
				}
			}
			row = append(row, x)
		}
		play(t, row, append(l, "", "never"))
	}
}

// P15.4: the same is in, and the same is told of it, in whatever order it came.
func TestOrders(t *testing.T) {
	r := rand.New(rand.NewSource(4))
	for range 60 {
		var row []one
		l := []api.Id{"never"}
		for i := range 12 {
			x := one{id: api.Id(strconv.Itoa(r.Intn(1000)) + "-" + strconv.Itoa(i))}
			for range r.Intn(3) {
				x.parents = append(x.parents, l[r.Intn(len(l))])
			}
			if i > 0 && r.Intn(12) > 0 {
				x.parents = slices.DeleteFunc(x.parents, func(p api.Id) bool { return p == "never" })
			}
			l = append(l, x.id)
			row = append(row, x)
		}
		first := play(t, row, l)
		for range 5 {
			r.Shuffle(len(row), func(i, j int) { row[i], row[j] = row[j], row[i] })
			d := play(t, row, l)
			if !slices.Equal(first.Ids(), d.Ids()) || !slices.Equal(first.Waiting(), d.Waiting()) || !slices.Equal(first.Lacks(), d.Lacks()) || !slices.Equal(first.Heads(), d.Heads()) {
				t.Fatalf("%s: %q are in, not %q", show(row), d.Ids(), first.Ids())
			}
			for _, id := range d.Ids() {
				for _, p := range d.Parents(id) {
					if !d.Has(p) || !d.Above(p, id) || d.Above(id, p) || d.Level(p) >= d.Level(id) {
						t.Fatalf("%s: %q, on %q", show(row), id, p)
					}
				}
			}
		}
	}
}

// P15.2: lists rise byte by byte, whatever the bytes are; the empty id is one, too.
func TestBytes(t *testing.T) {
	l := []api.Id{"", "\x00", "\x00\x00", "\x01", "9", "A", "a", "a\x00", "aa", "b", "\x7f", "\x80", "\xc3\xa9", "\xff", "\xff\xff", api.Id(strings.Repeat("\xff", 1000))}
	d, w := dag.New(), dag.New()
	for i := range l {
		at := i * 7 % len(l)
		if got := d.Add(l[at], nil); !slices.Equal(got, l[at:at+1]) {
			t.Errorf("%q: %q", l[at], got)
		}
		w.Add("w"+l[at], []api.Id{l[at]})
	}
	if !slices.Equal(d.Ids(), l) || !slices.Equal(d.Heads(), l) || d.Many() != len(l) || !slices.Equal(w.Lacks(), l) || len(w.Waiting()) != len(l) {
		t.Errorf("Ids %q, Heads %q, Lacks %q", d.Ids(), d.Heads(), w.Lacks())
	}
	back := slices.Clone(l)
	slices.Reverse(back)
	if got := d.Add("on", append(back, back...)); !slices.Equal(got, []api.Id{"on"}) || !slices.Equal(d.Parents("on"), l) || !slices.Equal(d.Heads(), []api.Id{"on"}) {
		t.Errorf("%q, on %q", got, d.Parents("on"))
	}
	for _, a := range l {
		for _, b := range l {
			if d.Above(a, b) != (a == b) {
				t.Errorf("Above(%q, %q)", a, b)
			}
		}
		if !d.Above(a, "on") || d.Above("on", a) || d.Above(a, "never") || d.Above("never", a) {
			t.Errorf("%q, and who stands on it", a)
		}
	}
}

// P15.2, P15.3: what is asked of one that waits, or isn't known.
func TestNotIn(t *testing.T) {
	d := dag.New()
	d.Add("a", nil)
	d.Add("w", ids("al"))
	d.Add("v", ids("w"))
	d.Add("s", ids("s"))
	for _, id := range []api.Id{"w", "v", "s", "l", "never", ""} {
		if d.Has(id) || len(d.Parents(id)) != 0 || d.Level(id) != -1 || d.Above(id, id) || d.Above("a", id) || d.Above(id, "a") {
			t.Errorf("%q is told of", id)
		}
	}
	if !slices.Equal(d.Ids(), ids("a")) || !slices.Equal(d.Heads(), ids("a")) || !slices.Equal(d.Waiting(), ids("svw")) || !slices.Equal(d.Lacks(), ids("l")) {
		t.Errorf("%q, %q, %q, %q", d.Ids(), d.Heads(), d.Waiting(), d.Lacks())
	}
}

// P15.1, R4: no parents, as nil or as an empty list.
func TestNone(t *testing.T) {
	for _, l := range [][]api.Id{nil, {}, make([]api.Id, 0, 4)} {
		d := dag.New()
		if len(d.Ids())+len(d.Waiting())+len(d.Lacks())+len(d.Heads())+d.Many() != 0 || d.Has("") || d.Above("", "") || d.Level("") != -1 || len(d.Parents("")) != 0 {
			t.Error("a new one has something")
		}
		if !slices.Equal(d.Add("", l), []api.Id{""}) || !d.Has("") || d.Level("") != 0 || len(d.Parents("")) != 0 || !d.Above("", "") || d.Many() != 1 {
			t.Errorf("%v: %q", l, d.Ids())
		}
	}
}

// R5: what was handed in stays as it was, and may be changed then; so may what was answered.
func TestOwn(t *testing.T) {
	d, m := dag.New(), &model{}
	for _, x := range []one{{"e", ids("dd")}, {"d", ids("cbab")}, {"c", ids("ba")}, {"b", ids("aaa")}, {"w", ids("zeya")}, {"a", nil}, {"w", nil}, {"y", ids("e")}} {
		l := append(make([]api.Id, 0, 9), x.parents...)
		d.Add(x.id, l[:len(x.parents):9])
		if !slices.Equal(l, x.parents) || !slices.Equal(l[:9][len(l):], make([]api.Id, 9-len(l))) {
			t.Errorf("%q: its list is %q", x.id, l[:9])
		}
		for i := range l {
			l[i] = "spoilt"
		}
		for _, id := range m.add(x) {
			for i, p := range d.Parents(id) {
				if p != m.parents(id)[i] {
					t.Errorf("%q stands on %q", id, d.Parents(id))
				}
			}
		}
		holds(t, d, m, ids("abcdewyz"), string(x.id))
	}
	for range 2 {
		for _, l := range [][]api.Id{d.Ids(), d.Waiting(), d.Lacks(), d.Heads(), d.Parents("d"), d.Parents("e"), d.Add("z0", ids("a")), d.Add("z1", ids("a"))} {
			full := l[:cap(l)]
			for i := range full {
				full[i] = "spoilt"
			}
			_ = append(l, "more")
		}
		m.add(one{"z0", ids("a")})
		m.add(one{"z1", ids("a")})
		holds(t, d, m, append(ids("abcdewyz"), "z0", "z1", "spoilt"), "spoilt")
	}
	if a, b := d.Parents("d"), d.Parents("d"); &a[0] == &b[0] {
		t.Error("two answers share memory")
	}
}

// R5, R6: graphs know nothing of each other.
func TestTwo(t *testing.T) {
	d, e := dag.New(), dag.New()
	l := ids("ab")
	d.Add("c", l)
	e.Add("c", l)
	d.Add("a", nil)
	d.Add("b", nil)
	if !d.Has("c") || e.Many() != 0 || !slices.Equal(e.Waiting(), ids("c")) || !slices.Equal(e.Lacks(), ids("ab")) {
		t.Errorf("%q, %q", d.Ids(), e.Ids())
	}
}

// R6: who only asks changes nothing; many may ask at once.
func TestAsk(t *testing.T) {
	var row []one
	m := &model{}
	for i := range 40 {
		x := one{id: api.Id(strconv.Itoa(i * 37 % 100))}
		for j := range i % 4 {
			x.parents = append(x.parents, api.Id(strconv.Itoa((i*i+j)%43*37%100)))
		}
		row = append(row, x)
		m.add(x)
	}
	for range 5 {
		d := dag.New()
		for _, x := range row {
			d.Add(x.id, x.parents)
		}
		var all sync.WaitGroup
		for range 8 {
			all.Go(func() {
				for i := range 40 {
					id := row[i].id
					if !slices.Equal(d.Ids(), m.ids()) || !slices.Equal(d.Heads(), m.heads()) || !slices.Equal(d.Waiting(), m.waits()) || !slices.Equal(d.Lacks(), m.lacks()) || !slices.Equal(d.Parents(id), m.parents(id)) || d.Level(id) != m.level(id) {
						t.Errorf("%q", d.Ids())
						return
					}
				}
			})
		}
		all.Wait()
	}
}

// number is an id that is greater, the greater its number is.
func number(n int) api.Id { return api.Id([]byte{byte(n >> 16), byte(n >> 8), byte(n)}) }

// R1, P15.1: a long chain that comes from its end: all wait for the first one.
func TestChain(t *testing.T) {
	const n = 1 << 17
	d := dag.New()
	for i := n - 1; i > 0; i-- {
		if l := d.Add(number(i), []api.Id{number(i - 1)}); len(l) != 0 {
			t.Fatal(i, len(l))
		}
	}
	if l := d.Lacks(); len(l) != 1 || l[0] != number(0) || len(d.Waiting()) != n-1 || len(d.Heads()) != 0 {
		t.Fatal(len(l))
	}
	came := d.Add(number(0), nil)
	if len(came) != n || len(d.Waiting()) != 0 || d.Many() != n || !slices.Equal(d.Heads(), []api.Id{number(n - 1)}) {
		t.Fatal(len(came), d.Many())
	}
	for i, id := range came {
		if id != number(i) || d.Level(id) != i {
			t.Fatal(i, d.Level(id))
		}
	}
	if !d.Above(number(0), number(n-1)) || d.Above(number(n-1), number(0)) || !d.Above(number(n/2), number(n-1)) || !d.Above(number(n-1), number(n-1)) {
		t.Error("Above, of a long chain")
	}
}

// R1, P15.1: many that wait for one, and one that waits for many, which come from the last one on.
func TestWide(t *testing.T) {
	const n = 1 << 16
	d := dag.New()
	var all []api.Id
	for i := n; i > 0; i-- {
		all = append(all, number(i))
		if l := d.Add(number(i), []api.Id{number(0)}); len(l) != 0 {
			t.Fatal(i, len(l))
		}
	}
	d.Add("\xff", all)
	if l := d.Lacks(); !slices.Equal(l, []api.Id{number(0)}) {
		t.Fatal(len(l))
	}
	came := d.Add(number(0), nil)
	if len(came) != n+2 || came[n+1] != "\xff" || !slices.IsSorted(came) || d.Level("\xff") != 2 || !slices.Equal(d.Heads(), []api.Id{"\xff"}) {
		t.Fatal(len(came))
	}
	if l := d.Parents("\xff"); len(l) != n || !slices.IsSorted(l) || !d.Above(number(0), "\xff") {
		t.Fatal(len(l))
	}

	back := dag.New()
	back.Add("\xff", all)
	for i := 1; i < n; i++ {
		if l := back.Add(number(i), nil); len(l) != 1 {
			t.Fatal(i, len(l))
		}
	}
	if l := back.Lacks(); !slices.Equal(l, []api.Id{number(n)}) {
		t.Fatal(len(l))
	}
	if l := back.Add(number(n), nil); !slices.Equal(l, []api.Id{number(n), "\xff"}) {
		t.Fatal(len(l))
	}
}

// R1, P15.3: a ladder, on which there are more ways down than can be gone.
func TestLadder(t *testing.T) {
	const n = 5000
	d := dag.New()
	d.Add(number(0), nil)
	d.Add(number(1), nil)
	for i := 2; i < 2*n; i += 2 {
		d.Add(number(i), []api.Id{number(i - 2), number(i - 1)})
		d.Add(number(i+1), []api.Id{number(i - 1), number(i - 2)})
	}
	if d.Level(number(2*n-1)) != n-1 || !d.Above(number(0), number(2*n-1)) || !d.Above(number(1), number(2*n-2)) || d.Above(number(2), number(3)) || d.Above(number(2*n-1), number(0)) {
		t.Error("a ladder")
	}
	d.Add("\xff", nil)
	if d.Above("\xff", number(2*n-1)) || d.Above(number(0), "\xff") {
		t.Error("one beside a ladder")
	}
}
