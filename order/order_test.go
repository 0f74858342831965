package order_test

import (
	"math/rand"
	"slices"
	"strconv"
	"strings"
	"sync"
	"testing"

	"grapevine/api"
	"grapevine/dag"
	"grapevine/order"
)

// ids is letters as ids.
func ids(s string) []api.Id {
	var out []api.Id
	for _, x := range []byte(s) {
		out = append(out, api.Id([]byte{x}))
	}
	return out
}

// text is ids as letters.
func text(l []api.Id) string {
	s := ""
	for _, id := range l {
		s += string(id)
	}
	return s
}

// one is an id, and what it is added with.
type one struct {
	id      api.Id
	parents []api.Id
}

// graph adds all of a row.
func graph(row []one) *dag.Dag {
	d := dag.New()
	for _, x := range row {
		d.Add(x.id, x.parents)
	}
	return d
}

// rows are letters, each with its parents behind it, as a row.
func rows(s string) []one {
	var out []one
	for _, x := range strings.Fields(s) {
		out = append(out, one{api.Id(x[:1]), ids(x[1:])})
	}
	return out
}

// show is a row as a text.
func show(row []one) string {
	s := ""
	for _, x := range row {
		s += strconv.Quote(string(x.id)) + "["
		for _, p := range x.parents {
			s += strconv.Quote(string(p))
		}
		s += "] "
	}
	return s
}

// model is a graph of at most 64 ids by what the document says of it, as bits: the ids rise, and a bit's number is its id's place.
type model struct {
	ids     []api.Id
	parents []uint64
	in      uint64
	below   []uint64
	level   []int
}

// bits are those of some ids that a model knows.
func (m *model) bits(l []api.Id) uint64 {
	var out uint64
	for _, id := range l {
		if at := slices.Index(m.ids, id); at >= 0 {
			out |= 1 << at
		}
	}
	return out
}

// list are the ids whose bits a number has.
func (m *model) list(bits uint64) []api.Id {
	var out []api.Id
	for i, id := range m.ids {
		if bits>>i&1 == 1 {
			out = append(out, id)
		}
	}
	return out
}

// newModel is what a row makes of some ids, among which all of the row are.
func newModel(row []one, l []api.Id) *model {
	m := &model{ids: slices.Clone(l), parents: make([]uint64, len(l)), below: make([]uint64, len(l)), level: make([]int, len(l))}
	slices.SortFunc(m.ids, func(a, b api.Id) int { return slices.Compare([]byte(a), []byte(b)) })
	var known uint64
	for _, x := range row {
		if bit := m.bits([]api.Id{x.id}); known&bit == 0 {
			known |= bit
			m.parents[slices.Index(m.ids, x.id)] = m.bits(x.parents)
		}
	}
	for range l {
		for i := range l {
			if known&^m.in>>i&1 == 0 || m.parents[i]&^m.in != 0 {
				continue
			}
			m.in |= 1 << i
			m.below[i] = 1 << i
			for p := range l {
				if m.parents[i]>>p&1 == 1 {
					m.below[i] |= m.below[p]
					m.level[i] = max(m.level[i], m.level[p]+1)
				}
			}
		}
	}
	return m
}

// log takes the least one again and again.
func (m *model) log() []api.Id {
	var out []api.Id
	for told := uint64(0); told != m.in; {
		for i := range m.ids {
			if m.in&^told>>i&1 == 1 && m.parents[i]&^told == 0 {
				told |= 1 << i
				out = append(out, m.ids[i])
				break
			}
		}
	}
	return out
}

// ranks goes through the levels.
func (m *model) ranks(bits uint64) []api.Id {
	var out []api.Id
	for level := range m.ids {
		for i, id := range m.ids {
			if bits&m.in>>i&1 == 1 && m.level[i] == level {
				out = append(out, id)
			}
		}
	}
	return out
}

// under is all that those of some bits have below them.
func (m *model) under(bits uint64) uint64 {
	var out uint64
	for i := range m.ids {
		if bits&m.in>>i&1 == 1 {
			out |= m.below[i]
		}
	}
	return out
}

// common is the last one of what both have.
func (m *model) common(a, b uint64) (api.Id, bool) {
	l := m.ranks(m.under(a) & m.under(b))
	if len(l) == 0 {
		return "", false
	}
	return l[len(l)-1], true
}

// holds holds all that is told of a graph against what it should be, for each of some lists, and each two of these.
func holds(t *testing.T, d *dag.Dag, m *model, lists [][]api.Id, what string) {
	t.Helper()
	if l := order.Log(d); !slices.Equal(l, m.log()) {
		t.Fatalf("%s: Log %q, not %q", what, l, m.log())
	}
	for _, a := range lists {
		x := m.bits(a)
		if l := order.Ranks(d, a); !slices.Equal(l, m.ranks(x)) {
			t.Fatalf("%s: Ranks of %q: %q, not %q", what, a, l, m.ranks(x))
		}
		if l := order.Below(d, a); !slices.Equal(l, m.list(m.under(x))) {
			t.Fatalf("%s: Below of %q: %q, not %q", what, a, l, m.list(m.under(x)))
		}
		for _, b := range lists {
			id, ok := order.Common(d, a, b)
			if want, yes := m.common(x, m.bits(b)); id != want || ok != yes {
				t.Fatalf("%s: Common of %q and %q: %q, %v, not %q, %v", what, a, b, id, ok, want, yes)
			}
		}
	}
}

// some are those of a list whose bits a number has.
func some(l []api.Id, bits int) []api.Id {
	var out []api.Id
	for i, id := range l {
		if bits>>i&1 == 1 {
			out = append(out, id)
		}
	}
	return out
}

// each are all lists of some ids.
func each(l []api.Id) [][]api.Id {
	var out [][]api.Id
	for bits := range 1 << len(l) {
		out = append(out, some(l, bits))
	}
	return out
}

// P16.1: the document's examples, and who is told ahead of whom.
func TestLog(t *testing.T) {
	for _, x := range []struct{ row, want string }{
		{"", ""},
		{"a b cb", "abc"},
		{"ab b", "ba"},
		{"c b a", "abc"},
		{"ac b c", "bca"}, // "a" isn't ready ahead of "c": "b" is less
		{"az b c z", "bcza"},
		{"az bz z y", "yzab"},
		{"z ab bz", "zba"},
		{"z bz ab c", "czba"}, // not by levels: "c" is of the first one
		{"a ba d ca ec", "abcde"},
		{"b c ac db", "bcad"},
		{"b ab c", "bac"}, // "a" goes ahead of "c", though it is of a greater level
		{"dabc a b c", "abcd"},
		{"y x ayx b", "bxya"},
		{"ax b", "b"}, // who waits isn't told
		{"aa b cb", "bc"},
		{"ab ba", ""},
		{"a bl cb dca", "a"},
	} {
		if s := text(order.Log(graph(rows(x.row)))); s != x.want {
			t.Errorf("%s: %s, not %s", x.row, s, x.want)
		}
	}
}

// P16.2: by level, and then byte by byte; each once; none that isn't in.
func TestRanks(t *testing.T) {
	for _, x := range []struct{ row, l, want string }{
		{"a b cb", "cba", "abc"},
		{"ab b", "ab", "ba"},
		{"b ab c", "abc", "bca"}, // "c" is of the first level: by ranks it stands ahead of "a"
		{"z bz ab c", "abcz", "czba"},
		{"b ab c", "aabbcca", "bca"},
		{"b ab c", "ca", "ca"},
		{"b ab c", "a", "a"},
		{"b ab c", "aa", "a"},
		{"b ab c", "", ""},
		{"b ab c", "xyz", ""},
		{"b ab c wl", "wxlclay", "ca"},
		{"", "ab", ""},
		{"a b c dc edab f", "fedcba", "abcfde"}, // a level is that of the longest way
	} {
		if s := text(order.Ranks(graph(rows(x.row)), ids(x.l))); s != x.want {
			t.Errorf("%s: %s: %s, not %s", x.row, x.l, s, x.want)
		}
	}
}

// P16.2: those that are told, and all on which they stand, by as many steps as may be.
func TestBelow(t *testing.T) {
	const row = "e be ab c dac fb wl vw ss"
	for _, x := range []struct{ l, want string }{
		{"e", "e"}, {"b", "be"}, {"a", "abe"}, {"d", "abcde"}, {"f", "bef"}, {"c", "c"},
		{"cf", "bcef"}, {"fc", "bcef"}, {"ffcf", "bcef"}, {"af", "abef"}, {"df", "abcdef"},
		{"", ""}, {"w", ""}, {"v", ""}, {"s", ""}, {"l", ""}, {"x", ""}, {"wvslx", ""}, {"wcx", "c"}, {"bw", "be"},
	} {
		if s := text(order.Below(graph(rows(row)), ids(x.l))); s != x.want {
			t.Errorf("%s: %s, not %s", x.l, s, x.want)
		}
	}
	if l := order.Below(dag.New(), ids("a")); len(l) != 0 {
		t.Errorf("%q, of none", l)
	}
}

// P16.3: the one with the greatest rank that both have below them.
func TestCommon(t *testing.T) {
	for _, x := range []struct {
		row, a, b, want string
		ok              bool
	}{
		{"p qp rp", "q", "r", "p", true},
		{"p qp rp", "q", "q", "q", true},
		{"p qp rp", "q", "p", "p", true},
		{"p qp rp", "p", "q", "p", true},
		{"p qp rp", "qr", "r", "r", true},
		{"p qp rp", "qr", "rq", "r", true},
		{"p q", "p", "q", "", false},
		{"p q", "pq", "q", "q", true},
		{"p q rp sq", "r", "s", "", false},
		{"p qp rp", "", "q", "", false},
		{"p qp rp", "q", "", "", false},
		{"p qp rp", "", "", "", false},
		{"p qp rp wl", "w", "w", "", false},
		{"p qp rp wl", "w", "q", "", false},
		{"p qp rp wl", "wqx", "xrl", "p", true},
		{"p qp rp", "x", "x", "", false},
		{"", "x", "x", "", false},
		{"z az y cay day", "c", "d", "a", true},      // "a" is of a greater level than "y", that is greater byte by byte
		{"a b cab dab", "c", "d", "b", true},         // of one level the greater one
		{"a b eab cab fec dec", "f", "d", "e", true}, // they cross
		{"y by ab c dac fb", "d", "f", "b", true},
		{"y by ab c dac fb", "cf", "d", "b", true},
		{"y by ab c dac fb", "f", "ac", "b", true},
		{"y by ab c dac fb", "cf", "ac", "b", true},
		{"y by ab c dac fb", "yc", "d", "y", true}, // "c" is of its level, and less
		{"a b", "ab", "ba", "b", true},
	} {
		id, ok := order.Common(graph(rows(x.row)), ids(x.a), ids(x.b))
		if string(id) != x.want || ok != x.ok {
			t.Errorf("%s: %s, %s: %q, %v, not %q, %v", x.row, x.a, x.b, id, ok, x.want, x.ok)
		}
	}
}

// P16.3: what both have may be the empty id, and there is one then.
func TestEmpty(t *testing.T) {
	d := graph([]one{{"", nil}, {"a", []api.Id{""}}, {"b", []api.Id{""}}})
	if id, ok := order.Common(d, ids("a"), ids("b")); id != "" || !ok {
		t.Errorf("%q, %v", id, ok)
	}
	if l := order.Log(d); !slices.Equal(l, []api.Id{"", "a", "b"}) {
		t.Errorf("Log %q", l)
	}
	if l := order.Log(graph([]one{{"", nil}})); !slices.Equal(l, []api.Id{""}) {
		t.Errorf("Log %q", l)
	}
	if l := order.Ranks(d, []api.Id{"b", "", "a", ""}); !slices.Equal(l, []api.Id{"", "a", "b"}) {
		t.Errorf("Ranks %q", l)
	}
	if l := order.Below(d, ids("b")); !slices.Equal(l, []api.Id{"", "b"}) {
		t.Errorf("Below %q", l)
	}
	// An empty id that isn't in is none.
	if id, ok := order.Common(graph(rows("a")), []api.Id{""}, []api.Id{""}); id != "" || ok {
		t.Errorf("%q, %v", id, ok)
	}
}

// P16.1 to P16.4: each graph of three ids, of which one is empty, that stand on any of these, and on one that never comes.
func TestEach(t *testing.T) {
	l := []api.Id{"", "a", "b", "z"}
	lists := each(l)
	for bits := range 1 << 12 {
		row := make([]one, 3)
		for i := range row {
			row[i] = one{l[i], some(l, bits>>(4*i)&15)}
		}
		holds(t, graph(row), newModel(row, l), lists, show(row))
	}
}

// P16.1 to P16.4: each graph of four ids, each of which stands on those alone that are ahead of it in a line, for each line.
func TestEachOfFour(t *testing.T) {
	lists := each(ids("abcd"))
	for _, line := range []string{"abcd", "abdc", "acbd", "acdb", "adbc", "adcb", "bacd", "badc", "bcad", "bcda", "bdac", "bdca", "cabd", "cadb", "cbad", "cbda", "cdab", "cdba", "dabc", "dacb", "dbac", "dbca", "dcab", "dcba"} {
		l := ids(line)
		for bits := range 1 << 6 {
			row := []one{{l[0], nil}, {l[1], some(l, bits&1)}, {l[2], some(l, bits>>1&3)}, {l[3], some(l, bits>>3&7)}}
			holds(t, graph(row), newModel(row, l), lists, show(row))
		}
	}
}

// chance is a row of so many ids, most of which come in, and its ids, and two more.
func chance(r *rand.Rand, n int) ([]one, []api.Id) {
	l := []api.Id{"", "never"}
	var row []one
	for i := range n {
		// Ids of which some begin with others, and whose bytes are above 127, too.
		x := one{id: api.Id(strings.Repeat(string([]byte{byte(r.Intn(3) * 127)}), r.Intn(3)) + strconv.Itoa(r.Intn(10)) + "-" + strconv.Itoa(i))}
		for range r.Intn(4) {
			if len(row) > 0 {
				x.parents = append(x.parents, row[max(r.Intn(len(row)), len(row)-1-r.Intn(8))].id)
			}
		}
		switch r.Intn(12 * n) {
		case 0:
			x.parents = append(x.parents, "never")
		case 1:
			x.parents = append(x.parents, x.id)
		}
		row, l = append(row, x), append(l, x.id)
	}
	return row, l
}

// P16.1 to P16.4, R6: greater graphs, in several orders: what is told hangs on which ids are in alone, not on how these came.
func TestMany(t *testing.T) {
	r := rand.New(rand.NewSource(16))
	for range 150 {
		row, l := chance(r, 1+r.Intn(60))
		m := newModel(row, l)
		lists := [][]api.Id{nil, l}
		for range 8 {
			var some []api.Id
			for range r.Intn(5) {
				some = append(some, l[r.Intn(len(l))])
			}
			lists = append(lists, some, append(some, some...))
		}
		for range 3 {
			holds(t, graph(row), m, lists, show(row))
			r.Shuffle(len(row), func(i, j int) { row[i], row[j] = row[j], row[i] })
		}
	}
}

// P16.4: in the log, and by ranks, all are told once, and none ahead of a parent.
func TestAhead(t *testing.T) {
	r := rand.New(rand.NewSource(64))
	for range 100 {
		row, _ := chance(r, 1+r.Intn(200))
		d := graph(row)
		for _, l := range [][]api.Id{order.Log(d), order.Ranks(d, d.Ids()), order.Ranks(d, order.Log(d))} {
			place := map[api.Id]int{}
			for i, id := range l {
				for _, p := range d.Parents(id) {
					if _, ok := place[p]; !ok {
						t.Fatalf("%s: %q ahead of %q", show(row), id, p)
					}
				}
				place[id] = i
			}
			if len(l) != d.Many() || len(place) != d.Many() {
				t.Fatalf("%s: %d told, not %d", show(row), len(l), d.Many())
			}
		}
	}
}

// P16.1, P16.2: ids go byte by byte, whatever the bytes are; none is told that isn't in, however it is written.
func TestBytes(t *testing.T) {
	l := []api.Id{"", "\x00", "\x00\x00", "\x01", "9", "A", "a", "a\x00", "aa", "b", "\x7f", "\x80", "\xc3\xa9", "\xff", "\xff\x00", "\xff\xff", api.Id(strings.Repeat("\xff", 1000))}
	mixed := slices.Clone(l)
	rand.New(rand.NewSource(1)).Shuffle(len(mixed), func(i, j int) { mixed[i], mixed[j] = mixed[j], mixed[i] })
	for n := range len(l) + 1 {
		d := dag.New()
		// What is greater than all that are in waits.
		for _, id := range mixed {
			if at := slices.Index(l, id); at < n {
				d.Add(id, nil)
			} else {
				d.Add(id, []api.Id{"never"})
			}
		}
		if got := order.Log(d); !slices.Equal(got, l[:n]) {
			t.Errorf("Log %q", got)
		}
		if got := order.Ranks(d, mixed); !slices.Equal(got, l[:n]) {
			t.Errorf("Ranks %q", got)
		}
		if got := order.Below(d, mixed); !slices.Equal(got, l[:n]) {
			t.Errorf("Below %q", got)
		}
		id, ok := order.Common(d, mixed, l)
		if n == 0 && (id != "" || ok) || n > 0 && (id != l[n-1] || !ok) {
			t.Errorf("Common %q, %v", id, ok)
		}
	}
}

// R1, R4: no ids, as nil or as an empty list, of a graph that has some, one with some that wait alone, or none.
func TestNone(t *testing.T) {
	for _, row := range []string{"", "wl", "ss"} {
		if l := order.Log(graph(rows(row))); len(l) != 0 {
			t.Errorf("%q: %q", row, l)
		}
	}
	for _, row := range []string{"", "wl", "a ba"} {
		d := graph(rows(row))
		for _, l := range [][]api.Id{nil, {}, make([]api.Id, 0, 4), ids("xy")} {
			if len(order.Ranks(d, l))+len(order.Below(d, l)) != 0 {
				t.Errorf("%q: %q, %q", row, order.Ranks(d, l), order.Below(d, l))
			}
			for _, k := range [][]api.Id{nil, {}, ids("a"), ids("b")} {
				x, yes := order.Common(d, l, k)
				y, no := order.Common(d, k, l)
				if x != "" || y != "" || yes || no {
					t.Errorf("%q: %q, %q", row, x, y)
				}
			}
		}
	}
}

// state is all that a graph tells.
func state(d *dag.Dag) [][]api.Id {
	out := [][]api.Id{d.Ids(), d.Waiting(), d.Lacks(), d.Heads()}
	for _, id := range d.Ids() {
		out = append(out, d.Parents(id))
	}
	return out
}

// R5, R6: what is handed in stays, the graph, too; what is answered is memory of its own.
func TestOwn(t *testing.T) {
	const row = "e be ab c dac fb wl vw"
	d, m := graph(rows(row)), newModel(rows(row), ids("abcdefvwl"))
	before := state(d)
	lists := [][]api.Id{ids("dcbaabxwf"), ids("ffee"), ids("abc"), ids("a"), nil}
	for _, l := range lists {
		// What lies behind a list stays, too.
		whole := append(slices.Clone(l), ids("zyx")...)
		keep := slices.Clone(whole)
		cut := whole[:len(l)]
		order.Common(d, cut, cut)
		for _, got := range [][]api.Id{order.Ranks(d, cut), order.Below(d, cut), order.Log(d)} {
			full := got[:cap(got)]
			for i := range full {
				full[i] = "spoilt"
			}
			_ = append(got, "more")
			if !slices.Equal(whole, keep) {
				t.Fatalf("%q, not %q", whole, keep)
			}
		}
		holds(t, d, m, lists, row)
	}
	for i, l := range state(d) {
		if !slices.Equal(l, before[i]) {
			t.Errorf("the graph tells %q, not %q", l, before[i])
		}
	}
	// The graph goes on: who waits comes in.
	if l := d.Add("l", nil); text(l) != "lwv" || text(order.Log(d)) != "cebadflwv" || text(order.Below(d, ids("v"))) != "lvw" {
		t.Errorf("%q, %q", l, order.Log(d))
	}
}

// R6: many may ask at once, and are told the same.
func TestAsk(t *testing.T) {
	row, l := chance(rand.New(rand.NewSource(6)), 50)
	d, m := graph(row), newModel(row, l)
	lists := [][]api.Id{l, l[10:13], l[30:40], l[50:]}
	var all sync.WaitGroup
	for range 8 {
		all.Go(func() {
			for range 20 {
				for _, a := range lists {
					x := m.bits(a)
					id, ok := order.Common(d, a, lists[1])
					want, yes := m.common(x, m.bits(lists[1]))
					if !slices.Equal(order.Log(d), m.log()) || !slices.Equal(order.Ranks(d, a), m.ranks(x)) || !slices.Equal(order.Below(d, a), m.list(m.under(x))) || id != want || ok != yes {
						t.Errorf("%q", a)
						return
					}
				}
			}
		})
	}
	all.Wait()
}

// number is an id that is greater, the greater its number is.
func number(n int) api.Id { return api.Id([]byte{byte(n >> 16), byte(n >> 8), byte(n)}) }

// R1, P16.1 to P16.3: long chains, of which each id is greater than the one that it stands on, or less.
func TestChain(t *testing.T) {
	const n = 1 << 17
	for _, at := range []func(i int) int{func(i int) int { return i }, func(i int) int { return n - 1 - i }} {
		d := dag.New()
		chain, rising := make([]api.Id, n), make([]api.Id, n)
		for i := range n {
			chain[i], rising[i] = number(at(i)), number(i)
			d.Add(chain[i], chain[max(i-1, 0):i])
		}
		if !slices.Equal(order.Log(d), chain) || !slices.Equal(order.Ranks(d, rising), chain) || !slices.Equal(order.Below(d, chain[n-1:]), rising) || !slices.Equal(order.Below(d, rising), rising) {
			t.Error("a long chain")
		}
		for _, x := range []struct{ a, b int }{{0, n - 1}, {n - 1, 0}, {n - 1, n - 2}, {n / 2, n - 1}, {n - 1, n - 1}} {
			if id, ok := order.Common(d, chain[x.a:x.a+1], chain[x.b:x.b+1]); id != chain[min(x.a, x.b)] || !ok {
				t.Errorf("%d, %d: %q, %v", x.a, x.b, id, ok)
			}
		}
	}
}

// R1, P16.1 to P16.3: many on one, and one on many.
func TestWide(t *testing.T) {
	const n = 1 << 16
	d := dag.New()
	d.Add("\xff", nil)
	var all []api.Id
	for i := range n {
		all = append(all, number(i))
		d.Add(all[i], []api.Id{"\xff"})
	}
	d.Add("\x00", all)
	want := append(append([]api.Id{"\xff"}, all...), "\x00")
	if l := order.Log(d); !slices.Equal(l, want) {
		t.Error(len(l))
	}
	if l := order.Ranks(d, d.Ids()); !slices.Equal(l, want) {
		t.Error(len(l))
	}
	if l := order.Below(d, []api.Id{"\x00"}); !slices.Equal(l, d.Ids()) {
		t.Error(len(l))
	}
	if id, ok := order.Common(d, all, []api.Id{"\x00"}); id != number(n-1) || !ok {
		t.Errorf("%q, %v", id, ok)
	}
	if id, ok := order.Common(d, all[:n/2], all[n/2:]); id != "\xff" || !ok {
		t.Errorf("%q, %v", id, ok)
	}
}

// R1, P16.1 to P16.3: a ladder, on which there are more ways down than can be gone.
func TestLadder(t *testing.T) {
	const n = 20000
	d := dag.New()
	d.Add(number(0), nil)
	d.Add(number(1), nil)
	for i := 2; i < 2*n; i += 2 {
		d.Add(number(i), []api.Id{number(i - 2), number(i - 1)})
		d.Add(number(i+1), []api.Id{number(i - 1), number(i - 2)})
	}
	if l := d.Ids(); len(l) != 2*n || !slices.Equal(order.Log(d), l) || !slices.Equal(order.Ranks(d, l), l) || !slices.Equal(order.Below(d, d.Heads()), l) {
		t.Error("a ladder")
	}
	if l := order.Below(d, []api.Id{number(2*n - 1)}); len(l) != 2*n-1 {
		t.Error(len(l))
	}
	if id, ok := order.Common(d, []api.Id{number(2*n - 1)}, []api.Id{number(2*n - 2)}); id != number(2*n-3) || !ok {
		t.Errorf("%q, %v", id, ok)
	}
}
