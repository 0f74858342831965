package diff_test

import (
	"math"
	"slices"
	"strings"
	"testing"

	"grapevine/api"
	"grapevine/diff"
)

// list is letters as lines.
func list(s string) []string {
	var out []string
	for i := range len(s) {
		out = append(out, s[i:i+1])
	}
	return out
}

// row is one line, again and again.
func row(many int, line string) []string {
	var out []string
	for range many {
		out = append(out, line)
	}
	return out
}

// edit is one with letters as lines.
func edit(at, del int, ins string) api.Edit {
	return api.Edit{At: at, Del: del, Ins: list(ins)}
}

// same tells whether edits are the same; a list of none is one, nil or not.
func same(k, l []api.Edit) bool {
	return slices.EqualFunc(k, l, func(x, y api.Edit) bool {
		return x.At == y.At && x.Del == y.Del && slices.Equal(x.Ins, y.Ins)
	})
}

// copied are edits with memory of their own.
func copied(l []api.Edit) []api.Edit {
	out := slices.Clone(l)
	for i := range out {
		out[i].Ins = slices.Clone(out[i].Ins)
	}
	return out
}

// words are all of up to so many letters out of some.
func words(many int, of string) []string {
	out, last := []string{""}, []string{""}
	for range many {
		var next []string
		for _, s := range last {
			for i := range len(of) {
				next = append(next, s+of[i:i+1])
			}
		}
		out, last = append(out, next...), next
	}
	return out
}

// lengths tells how long the longest common subsequence of two lists is, from their fronts on: behind how many lines of each.
func lengths(a, b []string) [][]int {
	out := make([][]int, len(a)+1)
	out[0] = make([]int, len(b)+1)
	for i := range a {
		out[i+1] = make([]int, len(b)+1)
		for j := range b {
			out[i+1][j+1] = max(out[i][j+1], out[i+1][j])
			if a[i] == b[j] {
				out[i+1][j+1] = out[i][j] + 1
			}
		}
	}
	return out
}

// longest is how long the longest common subsequence of two lists is.
func longest(a, b []string) int { return lengths(a, b)[len(a)][len(b)] }

// between is what is between the front and the end that two lists have in common, and how long that front is.
func between(a, b []string) (x, y []string, front int) {
	for len(a) > 0 && len(b) > 0 && a[0] == b[0] {
		a, b, front = a[1:], b[1:], front+1
	}
	for len(a) > 0 && len(b) > 0 && a[len(a)-1] == b[len(b)-1] {
		a, b = a[:len(a)-1], b[:len(b)-1]
	}
	return a, b, front
}

// way is the way from a to b as the document tells it: a sign for each line, of those between, that stays, goes, or comes, and how many stay ahead of these.
func way(a, b []string) (signs string, front int) {
	x, y, front := between(a, b)
	if len(x) == 0 || len(y) == 0 || len(x)*len(y) > diff.MaxCells {
		return strings.Repeat("-", len(x)) + strings.Repeat("+", len(y)), front
	}
	for len(x) > 0 || len(y) > 0 {
		switch {
		case len(y) == 0:
			signs, x = signs+"-", x[1:]
		case len(x) == 0:
			signs, y = signs+"+", y[1:]
		case x[0] == y[0]:
			signs, x, y = signs+" ", x[1:], y[1:]
		case longest(x[1:], y) >= longest(x, y[1:]):
			signs, x = signs+"-", x[1:]
		default:
			signs, y = signs+"+", y[1:]
		}
	}
	return signs, front
}

// told are the edits of that way.
func told(a, b []string) []api.Edit {
	signs, front := way(a, b)
	var out []api.Edit
	i, j, open := front, front, false
	for _, sign := range signs {
		if sign == ' ' {
			i, j, open = i+1, j+1, false
			continue
		}
		if !open {
			out, open = append(out, api.Edit{At: i}), true
		}
		e := &out[len(out)-1]
		if sign == '-' {
			e.Del, i = e.Del+1, i+1
		} else {
			e.Ins, j = append(e.Ins, b[j]), j+1
		}
	}
	return out
}

// right is what the document tells of edits. (Its sums are of small numbers.)
func right(many int, l []api.Edit) bool {
	for i, e := range l {
		if e.Del == 0 && len(e.Ins) == 0 || e.Del < 0 || i == 0 && e.At < 0 {
			return false
		}
		if i > 0 && e.At <= l[i-1].At+l[i-1].Del {
			return false
		}
		if i == len(l)-1 && e.At+e.Del > many {
			return false
		}
	}
	return true
}

// play is what lines become, by each of them in turn.
func play(a []string, l []api.Edit) []string {
	var out []string
	for i := range len(a) + 1 {
		gone := false
		for _, e := range l {
			if e.At == i {
				out = append(out, e.Ins...)
			}
			gone = gone || e.At <= i && i < e.At+e.Del
		}
		if i < len(a) && !gone {
			out = append(out, a[i])
		}
	}
	return out
}

// check holds what is between two lists against what is wanted, and plays it there and back.
func check(t *testing.T, a, b []string, want []api.Edit) {
	t.Helper()
	l := diff.Diff(a, b)
	if !same(l, want) {
		t.Fatalf("%.99q to %.99q: %.199v, not %.199v", a, b, l, want)
	}
	if !diff.Right(len(a), l) {
		t.Fatalf("%.99q to %.99q: not right: %.199v", a, b, l)
	}
	if got, ok := diff.Play(a, l); !ok || !slices.Equal(got, b) {
		t.Fatalf("%.99q to %.99q: played: %.99q, %v", a, b, got, ok)
	}
	back := diff.Turn(a, l)
	if got, ok := diff.Play(b, back); !ok || !slices.Equal(got, a) {
		t.Fatalf("%.99q to %.99q: back: %.99q, %v", a, b, got, ok)
	}
	if again := diff.Turn(b, back); !same(again, l) {
		t.Fatalf("%.99q to %.99q: turned twice: %.199v, not %.199v", a, b, again, l)
	}
	if diff.Size(l) != diff.Size(back) {
		t.Fatalf("%.99q to %.99q: %d lines, and %d back", a, b, diff.Size(l), diff.Size(back))
	}
}

// P4.1, P4.3: lists with what is between them, written out.
func TestKnown(t *testing.T) {
	for _, x := range []struct {
		a, b string
		want []api.Edit
		size int
	}{
		{"abc", "axc", []api.Edit{edit(1, 1, "x")}, 2},
		{"", "", nil, 0}, {"a", "a", nil, 0}, {"abc", "abc", nil, 0},
		{"", "ab", []api.Edit{edit(0, 0, "ab")}, 2}, {"ab", "", []api.Edit{edit(0, 2, "")}, 2},
		{"a", "b", []api.Edit{edit(0, 1, "b")}, 2}, {"ab", "cd", []api.Edit{edit(0, 2, "cd")}, 4},
		{"a", "ab", []api.Edit{edit(1, 0, "b")}, 1}, {"b", "ab", []api.Edit{edit(0, 0, "a")}, 1}, {"ac", "abc", []api.Edit{edit(1, 0, "b")}, 1},
		// The front is looked for ahead of the end, and the end isn't in the front.
		{"aa", "a", []api.Edit{edit(1, 1, "")}, 1}, {"a", "aa", []api.Edit{edit(1, 0, "a")}, 1}, {"aba", "aba", nil, 0},
		{"aba", "a", []api.Edit{edit(1, 2, "")}, 2}, {"a", "aba", []api.Edit{edit(1, 0, "ba")}, 2}, {"abab", "ab", []api.Edit{edit(2, 2, "")}, 2},
		{"aaa", "aba", []api.Edit{edit(1, 1, "b")}, 2}, {"abcabc", "abc", []api.Edit{edit(3, 3, "")}, 3},
		// Where either may go on, a line goes.
		{"ab", "ba", []api.Edit{edit(0, 1, ""), edit(2, 0, "a")}, 2}, {"abc", "cab", []api.Edit{edit(0, 0, "c"), edit(2, 1, "")}, 2},
		{"abcd", "bxd", []api.Edit{edit(0, 1, ""), edit(2, 1, "x")}, 3},
		{"abcabba", "cbabac", []api.Edit{edit(0, 2, ""), edit(3, 1, ""), edit(5, 0, "a"), edit(7, 0, "c")}, 5},
		{"xaby", "zbaw", []api.Edit{edit(0, 2, "z"), edit(3, 1, "aw")}, 6},
	} {
		a, b := list(x.a), list(x.b)
		check(t, a, b, x.want)
		if l := diff.Diff(a, b); diff.Size(l) != x.size {
			t.Errorf("%q to %q: %d lines, not %d", x.a, x.b, diff.Size(l), x.size)
		}
	}
}

// P4.1: lines are any texts: those of no bytes, of several lines, that are no text, and the same bytes elsewhere.
func TestAnyLines(t *testing.T) {
	other := string([]byte("a\n"))
	for _, x := range []struct {
		a, b []string
		want []api.Edit
	}{
		{[]string{""}, nil, []api.Edit{{At: 0, Del: 1}}}, {nil, []string{""}, []api.Edit{{Ins: []string{""}}}}, {[]string{""}, []string{""}, nil},
		{[]string{"", ""}, []string{""}, []api.Edit{{At: 1, Del: 1}}},
		{[]string{"a\n"}, []string{other}, nil}, {[]string{"a\n"}, []string{"a"}, []api.Edit{{Del: 1, Ins: []string{"a"}}}},
		{[]string{"a", "b"}, []string{"ab"}, []api.Edit{{Del: 2, Ins: []string{"ab"}}}}, {[]string{"a\nb"}, []string{"a\n", "b"}, []api.Edit{{Del: 1, Ins: []string{"a\n", "b"}}}},
		{[]string{"\x00", "\xff", "\xfe"}, []string{"\xff", "\x00\x00"}, []api.Edit{{Del: 1}, {At: 2, Del: 1, Ins: []string{"\x00\x00"}}}},
		{[]string{"\u00e9"}, []string{"e\u0301"}, []api.Edit{{Del: 1, Ins: []string{"e\u0301"}}}}, {[]string{"A"}, []string{"a"}, []api.Edit{{Del: 1, Ins: []string{"a"}}}},
		{[]string{strings.Repeat("x", 1<<20)}, []string{strings.Repeat("x", 1<<20) + "\n"}, []api.Edit{{Del: 1, Ins: []string{strings.Repeat("x", 1<<20) + "\n"}}}},
	} {
		check(t, x.a, x.b, x.want)
	}
}

// P4.1 to P4.3: all short lists: the way is the document's, and no shorter one is there.
func TestAllShort(t *testing.T) {
	for _, x := range []struct {
		many int
		of   string
	}{{4, "abc"}, {6, "ab"}, {3, "abcdef"}} {
		all := words(x.many, x.of)
		for _, s := range all {
			for _, z := range all {
				a, b := list(s), list(z)
				check(t, a, b, told(a, b))
				if got, least := diff.Size(diff.Diff(a, b)), len(a)+len(b)-2*longest(a, b); got != least {
					t.Fatalf("%q to %q: %d lines, not %d", s, z, got, least)
				}
			}
		}
	}
}

// P4.1 to P4.3: longer lists, of few lines, and of many, with a front and an end that both have, or without.
func TestLonger(t *testing.T) {
	x := uint32(1)
	some := func(many, kinds int) []string {
		var out []string
		for range many {
			x = x*1664525 + 1013904223
			out = append(out, string(rune('a'+int(x>>16)%kinds)))
		}
		return out
	}
	for i := range 300 {
		front, end, kinds := some(i%4, 2), some(i%3, 2), 2+i%9
		a := slices.Concat(front, some(i%23, kinds), end)
		b := slices.Concat(front, some(i%29, kinds), end)
		check(t, a, b, told(a, b))
		if got, least := diff.Size(diff.Diff(a, b)), len(a)+len(b)-2*longest(a, b); got != least {
			t.Fatalf("%q to %q: %d lines, not %d", a, b, got, least)
		}
	}
}

// P4.1: up to MaxCells it is looked through line by line, above it isn't; the front and the end that both have don't count.
func TestMaxCells(t *testing.T) {
	if diff.MaxCells != 65536 {
		t.Fatal(diff.MaxCells)
	}
	for _, x := range []struct {
		gone, come int
		apart      bool
	}{
		{256, 256, true}, {257, 256, false}, {256, 257, false}, {257, 255, true}, {255, 257, true}, {257, 257, false},
		{65536, 1, true}, {65537, 1, false}, {1, 65536, true}, {1, 65537, false},
		{32768, 2, true}, {32769, 2, false}, {2, 32768, true}, {2, 32769, false},
	} {
		for _, around := range []int{0, 1, 300} {
			front, end := row(around, "front"), row(around, "end")
			a := slices.Concat(front, row(x.gone, "x"), end)
			b := slices.Concat(front, row(x.come, "y"), end)
			// One line could stay: it is looked for within the limit alone.
			i, j := x.gone/2, x.come/3
			a[around+i], b[around+j] = "=", "="
			want := []api.Edit{{At: around, Del: i, Ins: row(j, "y")}, {At: around + i + 1, Del: x.gone - i - 1, Ins: row(x.come-j-1, "y")}}
			if !x.apart {
				want = []api.Edit{{At: around, Del: x.gone, Ins: b[around : around+x.come]}}
			}
			check(t, a, b, want)
		}
	}
}

// P4.1: where one of both has no line between, there is no limit; nor for lists that are the same.
func TestManyLines(t *testing.T) {
	many := row(1<<20, "x")
	check(t, many, many, nil)
	check(t, many, nil, []api.Edit{{Del: 1 << 20}})
	check(t, nil, many, []api.Edit{{Ins: many}})
	check(t, many, many[:1<<19], []api.Edit{{At: 1 << 19, Del: 1 << 19}})
	check(t, slices.Concat(many, list("a")), slices.Concat(many, list("b")), []api.Edit{edit(1<<20, 1, "b")})
	check(t, slices.Concat(list("a"), many), slices.Concat(list("b"), many), []api.Edit{edit(0, 1, "b")})
}

// P4.1: how many lines go and come, of edits that needn't be right.
func TestSize(t *testing.T) {
	for _, x := range []struct {
		l    []api.Edit
		want int
	}{
		{nil, 0}, {[]api.Edit{}, 0}, {[]api.Edit{{}}, 0}, {[]api.Edit{{At: 7}}, 0}, {[]api.Edit{{At: -7, Del: 2}}, 2},
		{[]api.Edit{edit(0, 3, "")}, 3}, {[]api.Edit{edit(0, 0, "ab")}, 2}, {[]api.Edit{edit(0, 3, "ab")}, 5},
		{[]api.Edit{edit(0, -1, "")}, 0}, {[]api.Edit{edit(0, -5, "ab")}, 2}, {[]api.Edit{edit(0, math.MinInt, "ab"), edit(9, 1, "")}, 3},
		{[]api.Edit{edit(5, 1, "a"), edit(5, 2, "b"), edit(0, -3, "c")}, 6}, {[]api.Edit{edit(0, math.MaxInt, "")}, math.MaxInt},
		{[]api.Edit{edit(0, 0, "a"), {Ins: []string{"", "\n\n"}}}, 3},
	} {
		if got := diff.Size(x.l); got != x.want {
			t.Errorf("%v: %d, not %d", x.l, got, x.want)
		}
	}
}

// wrong tells whether edits are taken for none of such lines' by all calls.
func wrong(t *testing.T, a []string, l []api.Edit) {
	t.Helper()
	if diff.Right(len(a), l) {
		t.Errorf("%d lines, %v: right", len(a), l)
	}
	if got, ok := diff.Play(a, l); ok || len(got) != 0 {
		t.Errorf("%d lines, %v: played: %q, %v", len(a), l, got, ok)
	}
	if got := diff.Turn(a, l); len(got) != 0 {
		t.Errorf("%d lines, %v: turned: %v", len(a), l, got)
	}
}

// P4.2: edits that are wrong, each in one way.
func TestWrong(t *testing.T) {
	a := list("abcd")
	for _, l := range [][]api.Edit{
		{edit(0, 0, "")}, {edit(4, 0, "")}, {edit(0, 1, ""), edit(2, 0, "")}, {edit(0, 0, ""), edit(2, 1, "")},
		{edit(1, -1, "")}, {edit(1, -1, "x")}, {edit(4, -4, "x")}, {edit(0, 1, ""), edit(3, -1, "x")}, {edit(3, -2, "x"), edit(4, 0, "x")},
		{edit(-1, 1, "")}, {edit(-1, 2, "x")}, {edit(-1, 0, "x")}, {edit(-1, 0, "x"), edit(0, 1, "")},
		{edit(5, 0, "x")}, {edit(4, 1, "")}, {edit(3, 2, "")}, {edit(0, 5, "")}, {edit(0, 1, ""), edit(3, 2, "x")}, {edit(0, 1, ""), edit(5, 0, "x")},
		{edit(0, 1, ""), edit(1, 1, "")}, {edit(0, 1, "x"), edit(1, 0, "x")}, {edit(1, 0, "x"), edit(1, 1, "")}, {edit(1, 0, "x"), edit(1, 0, "x")},
		{edit(0, 3, ""), edit(2, 1, "")}, {edit(0, 5, ""), edit(2, 1, "")}, {edit(2, 1, ""), edit(0, 1, "")}, {edit(0, 2, ""), edit(3, 1, "x"), edit(4, 0, "y")},
	} {
		wrong(t, a, l)
	}
	for _, l := range [][]api.Edit{{edit(0, 1, "")}, {edit(1, 0, "x")}, {edit(0, 0, "")}} {
		wrong(t, nil, l)
		wrong(t, []string{}, l)
	}
}

// R1, P4.2: numbers at the ends of int, whose sums go round.
func TestHuge(t *testing.T) {
	ends := []int{math.MinInt, math.MinInt + 1, -1, 0, 1, 2, 5, math.MaxInt - 1, math.MaxInt}
	for _, at := range ends {
		for _, del := range ends {
			e := edit(at, del, "x")
			fits := func(many int) bool { return at >= 0 && del >= 0 && at <= many && del <= many-at }
			for _, many := range ends {
				if got := diff.Right(many, []api.Edit{e}); got != fits(many) {
					t.Errorf("%d lines, %v: right: %v", many, e, got)
				}
				// None stands behind itself, or below 0.
				if diff.Right(many, []api.Edit{e, edit(math.MinInt, 1, "")}) || diff.Right(many, []api.Edit{e, e}) {
					t.Errorf("%d lines, %v twice, or with one below 0: right", many, e)
				}
			}
			if !fits(2) {
				wrong(t, list("ab"), []api.Edit{e})
				wrong(t, list("ab"), []api.Edit{e, edit(1, 0, "x")})
				wrong(t, list("ab"), []api.Edit{e, edit(2, 0, "x")})
			}
			diff.Size([]api.Edit{e, e})
		}
	}
	for _, many := range ends {
		if !diff.Right(many, nil) || !diff.Right(many, []api.Edit{}) {
			t.Errorf("no edits aren't right for %d", many)
		}
	}
	if !diff.Right(math.MaxInt, []api.Edit{edit(0, math.MaxInt-1, ""), edit(math.MaxInt, 0, "x")}) {
		t.Error("an edit behind all lines there can be isn't right")
	}
}

// P4.2, P4.3: all lists of up to three edits, of small numbers: those that are right play, and turn, and no others do.
func TestAllEdits(t *testing.T) {
	var each []api.Edit
	for at := -1; at <= 4; at++ {
		for del := -1; del <= 2; del++ {
			for _, ins := range []string{"", "x", "xy"} {
				each = append(each, edit(at, del, ins))
			}
		}
	}
	all := [][]api.Edit{nil}
	for _, e := range each {
		all = append(all, []api.Edit{e})
		for i, f := range each {
			all = append(all, []api.Edit{e, f})
			for _, g := range each[i%5:] {
				if f.At > e.At && g.At > e.At {
					all = append(all, []api.Edit{e, f, g})
				}
			}
		}
	}
	for _, l := range all {
		for _, s := range []string{"", "a", "abc", "abcd"} {
			a := list(s)
			if !right(len(a), l) {
				wrong(t, a, l)
				continue
			}
			if !diff.Right(len(a), l) {
				t.Fatalf("%q, %v: not right", s, l)
			}
			b, ok := diff.Play(a, l)
			if !ok || !slices.Equal(b, play(a, l)) {
				t.Fatalf("%q, %v: played: %q, %v", s, l, b, ok)
			}
			back := diff.Turn(a, l)
			if got, ok := diff.Play(b, back); !ok || len(back) != len(l) || !slices.Equal(got, a) {
				t.Fatalf("%q, %v: turned: %v, played: %q, %v", s, l, back, got, ok)
			}
			if again := diff.Turn(b, back); !same(again, l) {
				t.Fatalf("%q, %v: turned twice: %v", s, l, again)
			}
		}
	}
}

// P4.2: edits with what lines become, and the way back, written out: of each edit one, also where it changes nothing.
func TestPlayAndTurn(t *testing.T) {
	for _, x := range []struct {
		a    string
		l    []api.Edit
		b    string
		back []api.Edit
	}{
		{"", nil, "", nil}, {"abc", nil, "abc", nil},
		{"abc", []api.Edit{edit(1, 1, "x")}, "axc", []api.Edit{edit(1, 1, "b")}},
		{"", []api.Edit{edit(0, 0, "xy")}, "xy", []api.Edit{edit(0, 2, "")}},
		{"ab", []api.Edit{edit(0, 2, "")}, "", []api.Edit{edit(0, 0, "ab")}},
		{"ab", []api.Edit{edit(2, 0, "x")}, "abx", []api.Edit{edit(2, 1, "")}},
		{"abcde", []api.Edit{edit(0, 0, "xyz"), edit(1, 2, ""), edit(4, 1, "w")}, "xyzadw", []api.Edit{edit(0, 3, ""), edit(4, 0, "bc"), edit(5, 1, "e")}},
		{"abcde", []api.Edit{edit(0, 3, ""), edit(4, 1, "xy")}, "dxy", []api.Edit{edit(0, 0, "abc"), edit(1, 2, "e")}},
		{"ab", []api.Edit{edit(0, 1, "a"), edit(2, 0, "b")}, "abb", []api.Edit{edit(0, 1, "a"), edit(2, 1, "")}},
	} {
		a := list(x.a)
		if b, ok := diff.Play(a, x.l); !ok || !slices.Equal(b, list(x.b)) {
			t.Errorf("%q, %v: played: %q, %v", x.a, x.l, b, ok)
		}
		if back := diff.Turn(a, x.l); !same(back, x.back) {
			t.Errorf("%q, %v: turned: %v, not %v", x.a, x.l, back, x.back)
		}
	}
}

// R4: no list and an empty one are the same, within edits too.
func TestNil(t *testing.T) {
	none := [][]string{nil, {}}
	for _, a := range none {
		for _, b := range none {
			check(t, a, b, nil)
			check(t, a, list("x"), []api.Edit{edit(0, 0, "x")})
			check(t, list("x"), b, []api.Edit{{Del: 1, Ins: a}})
		}
		for _, l := range [][]api.Edit{nil, {}} {
			if b, ok := diff.Play(a, l); !ok || len(b) != 0 || len(diff.Turn(a, l)) != 0 || !diff.Right(0, l) || diff.Size(l) != 0 {
				t.Errorf("no edits of no lines: %q, %v", b, ok)
			}
		}
		l := []api.Edit{{Del: 1, Ins: a}}
		if b, ok := diff.Play(list("x"), l); !ok || len(b) != 0 || diff.Size(l) != 1 || !same(diff.Turn(list("x"), l), []api.Edit{edit(0, 0, "x")}) {
			t.Errorf("none come: %q, %v", b, ok)
		}
		wrong(t, list("x"), []api.Edit{{Ins: a}})
	}
}

// R5: what is handed in is not changed, nor is what stands behind it.
func TestHandedIn(t *testing.T) {
	whole := list("abcdefgh")
	for n := range 6 {
		a, b := whole[:n], whole[n/2:n+1]
		one := diff.Diff(a, b)
		back := diff.Turn(a, one)
		got, _ := diff.Play(a, one)
		kept := [][]api.Edit{copied(one), copied(back)}
		_ = append(got, "spoilt")
		if !slices.Equal(whole, list("abcdefgh")) || !same(one, kept[0]) || !same(back, kept[1]) {
			t.Errorf("%d: what was handed in was changed: %q, %v, %v", n, whole, one, back)
		}
	}
	l := append(make([]api.Edit, 0, 3), edit(0, 1, "x"))
	l[0].Ins = append(make([]string, 0, 5), "x")
	diff.Play(list("ab"), l)
	diff.Turn(list("ab"), l)
	if l[:2][1].Del != 0 || l[0].Ins[:2][1] != "" || !same(l, []api.Edit{edit(0, 1, "x")}) {
		t.Errorf("edits that were handed in were changed: %v", l)
	}
}

// R5: what is answered is memory of its own: who changes it changes neither what was handed in, nor another part of it.
func TestOwnMemory(t *testing.T) {
	a, b := list("abcdef"), list("xbcydzzf")
	spoil := func(l []api.Edit) {
		for i := range l {
			rest := copied(l[i+1:])
			for k := range l[i].Ins {
				l[i].Ins[k] = "spoilt"
			}
			l[i].Ins = append(l[i].Ins, "more", "and more")
			if !same(l[i+1:], rest) {
				t.Errorf("edit %d shares its lines", i)
			}
		}
	}
	want := told(a, b)
	l := diff.Diff(a, b)
	back, again := diff.Turn(a, l), diff.Turn(a, l)
	got, _ := diff.Play(a, l)
	spoil(l)
	if !same(back, again) || !slices.Equal(got, b) || !slices.Equal(b, list("xbcydzzf")) || !same(diff.Diff(a, b), want) {
		t.Errorf("what is between shares its lines: %q, %q", got, b)
	}
	spoil(back)
	if !slices.Equal(a, list("abcdef")) || !same(diff.Turn(b, again), want) {
		t.Errorf("the way back shares its lines: %q", a)
	}
	for _, l := range [][]api.Edit{nil, want} {
		kept := copied(l)
		got, _ := diff.Play(a, l)
		for i := range got {
			got[i] = "spoilt"
		}
		if !slices.Equal(a, list("abcdef")) || !same(l, kept) {
			t.Errorf("what lines became shares theirs: %q, %v", a, l)
		}
	}
	// One edit alone, as where one list has no line between, or both have too many.
	for _, x := range [][2][]string{{nil, list("ab")}, {row(300, "x"), row(300, "y")}} {
		kept := slices.Clone(x[1])
		spoil(diff.Diff(x[0], x[1]))
		if !slices.Equal(x[1], kept) {
			t.Error("one edit alone shares its lines")
		}
	}
}

// R6: asked again, whatever was asked between, the same is told.
func TestAgain(t *testing.T) {
	all := words(3, "abc")
	for range 3 {
		for _, s := range all {
			a, b := list(s), list("bca")
			check(t, a, b, told(a, b))
			check(t, b, a, told(b, a))
		}
	}
}
