package hunk_test

import (
	"fmt"
	"math"
	"slices"
	"strconv"
	"strings"
	"testing"

	"grapevine/api"
	"grapevine/diff"
	"grapevine/hunk"
)

// list is letters as lines.
func list(s string) []string {
	var out []string
	for i := range len(s) {
		out = append(out, s[i:i+1])
	}
	return out
}

// numbers are lines that are unlike each other.
func numbers(many int) []string {
	var out []string
	for i := range many {
		out = append(out, strconv.Itoa(i))
	}
	return out
}

// edit is one with letters as lines.
func edit(at, del int, ins string) api.Edit {
	return api.Edit{At: at, Del: del, Ins: list(ins)}
}

// one is a hunk with its lines in one text, a bar between any two.
func one(a, an, b, bn int, lines string) api.Hunk {
	h := api.Hunk{A: a, An: an, B: b, Bn: bn}
	if lines != "" {
		h.Lines = strings.Split(lines, "|")
	}
	return h
}

// same tells whether hunks are; a list of none is one, nil or not.
func same(g, h api.Hunk) bool {
	return g.A == h.A && g.An == h.An && g.B == h.B && g.Bn == h.Bn && slices.Equal(g.Lines, h.Lines)
}

// allSame tells whether hunks are the same, one by one.
func allSame(k, l []api.Hunk) bool { return slices.EqualFunc(k, l, same) }

// sameEdits tells whether edits are.
func sameEdits(k, l []api.Edit) bool {
	return slices.EqualFunc(k, l, func(x, y api.Edit) bool {
		return x.At == y.At && x.Del == y.Del && slices.Equal(x.Ins, y.Ins)
	})
}

// copied are hunks with memory of their own.
func copied(l []api.Hunk) []api.Hunk {
	out := slices.Clone(l)
	for i := range out {
		out[i].Lines = slices.Clone(out[i].Lines)
	}
	return out
}

// copiedEdits are edits with memory of their own.
func copiedEdits(l []api.Edit) []api.Edit {
	out := slices.Clone(l)
	for i := range out {
		out[i].Ins = slices.Clone(out[i].Ins)
	}
	return out
}

// words are all of up to so many letters out of some.
func words(many int, of string) []string {
	out, last := []string{""}, []string{""}
	for range many {
		var next []string
		for _, s := range last {
			for i := range len(of) {
				next = append(next, s+of[i:i+1])
			}
		}
		out, last = append(out, next...), next
	}
	return out
}

// allEdits are all of up to three edits, of small numbers, that are right for so many lines.
func allEdits(many int) [][]api.Edit {
	out, last := [][]api.Edit{nil}, [][]api.Edit{nil}
	for range 3 {
		var next [][]api.Edit
		for _, l := range last {
			for at := range many + 1 {
				for del := range 3 {
					for _, ins := range []string{"", "x", "yz"} {
						more := append(slices.Clone(l), edit(at, del, ins))
						if diff.Right(many, more) {
							next = append(next, more)
						}
					}
				}
			}
		}
		out, last = append(out, next...), next
	}
	return out
}

// sides are a hunk's lines, without signs, on the old side and on the new one.
func sides(h api.Hunk) (old, fresh []string) {
	for _, line := range h.Lines {
		if line[0] != '+' {
			old = append(old, line[1:])
		}
		if line[0] != '-' {
			fresh = append(fresh, line[1:])
		}
	}
	return old, fresh
}

// told is the hunks in another way: all lines of both, with their signs, of which those that stay far from each edit aren't shown; a hunk is all that is shown in a row.
func told(a []string, l []api.Edit, around int) []api.Hunk {
	var out []api.Hunk
	open, old, fresh := false, 0, 0
	tell := func(sign, line string) {
		if !open {
			out, open = append(out, api.Hunk{A: old, B: fresh}), true
		}
		h := &out[len(out)-1]
		h.Lines = append(h.Lines, sign+line)
		if sign != "+" {
			h.An, old = h.An+1, old+1
		}
		if sign != "-" {
			h.Bn, fresh = h.Bn+1, fresh+1
		}
	}
	for i := range len(a) + 1 {
		gone, near := false, false
		var ins []string
		for _, e := range l {
			near = near || e.At-around <= i && i < e.At+e.Del+around
			gone = gone || e.At <= i && i < e.At+e.Del
			if e.At+e.Del == i {
				ins = e.Ins
			}
		}
		for _, line := range ins {
			tell("+", line)
		}
		switch {
		case i == len(a):
		case gone:
			tell("-", a[i])
		case near:
			tell(" ", a[i])
		default:
			open, old, fresh = false, old+1, fresh+1
		}
	}
	return out
}

// right is what the document tells of a hunk.
func right(h api.Hunk) bool {
	old, fresh := 0, 0
	for i, line := range h.Lines {
		if line == "" || !strings.Contains(" -+", line[:1]) || i > 0 && line[0] == '-' && h.Lines[i-1][0] == '+' {
			return false
		}
		old += strings.Count(" -", line[:1])
		fresh += strings.Count(" +", line[:1])
	}
	return h.A >= 0 && h.B >= 0 && h.An == old && h.Bn == fresh
}

// short is something as a text that isn't long: thousands of lines tell nobody what is wrong.
func short(x any) string { return fmt.Sprintf("%.300s", fmt.Sprintf("%v", x)) }

// check holds hunks of edits against what is wanted, and all that follows from it.
func check(t *testing.T, a []string, l []api.Edit, around int, want []api.Hunk) {
	t.Helper()
	got, fail := hunk.Make(a, l, around)
	if fail != api.OK || !allSame(got, want) {
		t.Fatalf("%s, %s, %d around: %s, %v, not %s", short(a), short(l), around, short(got), fail, short(want))
	}
	var again []api.Edit
	for _, h := range got {
		if !hunk.Right(h) {
			t.Fatalf("%s, %s, %d around: not right: %s", short(a), short(l), around, short(h))
		}
		if twice := hunk.Turn(hunk.Turn(h)); !same(twice, h) {
			t.Fatalf("%s, %s, %d around: turned twice %s: %s", short(a), short(l), around, short(h), short(twice))
		}
		again = append(again, hunk.Edits(h)...)
	}
	if !sameEdits(again, l) {
		t.Fatalf("%s, %s, %d around: tells %s", short(a), short(l), around, short(again))
	}
}

// P5.1, P5.3: edits with their hunks, written out.
func TestKnown(t *testing.T) {
	several := []api.Edit{edit(1, 1, "xy"), edit(4, 1, ""), edit(9, 0, "z")}
	for _, x := range []struct {
		a      string
		l      []api.Edit
		around int
		want   []api.Hunk
	}{
		{"abc", []api.Edit{edit(1, 1, "x")}, 1, []api.Hunk{one(0, 3, 0, 3, " a|-b|+x| c")}},
		{"abc", []api.Edit{edit(1, 1, "x")}, 0, []api.Hunk{one(1, 1, 1, 1, "-b|+x")}},
		{"abc", []api.Edit{edit(1, 1, "x")}, 1000, []api.Hunk{one(0, 3, 0, 3, " a|-b|+x| c")}},
		{"", nil, 0, nil}, {"abc", nil, 3, nil},
		{"", []api.Edit{edit(0, 0, "xy")}, 3, []api.Hunk{one(0, 0, 0, 2, "+x|+y")}},
		{"ab", []api.Edit{edit(0, 2, "")}, 3, []api.Hunk{one(0, 2, 0, 0, "-a|-b")}},
		{"ab", []api.Edit{edit(0, 2, "xyz")}, 3, []api.Hunk{one(0, 2, 0, 3, "-a|-b|+x|+y|+z")}},
		{"ab", []api.Edit{edit(0, 0, "x")}, 0, []api.Hunk{one(0, 0, 0, 1, "+x")}},
		{"ab", []api.Edit{edit(1, 0, "x")}, 0, []api.Hunk{one(1, 0, 1, 1, "+x")}},
		{"ab", []api.Edit{edit(2, 0, "x")}, 0, []api.Hunk{one(2, 0, 2, 1, "+x")}},
		{"abcde", []api.Edit{edit(0, 0, "x")}, 2, []api.Hunk{one(0, 2, 0, 3, "+x| a| b")}},
		{"abcde", []api.Edit{edit(5, 0, "x")}, 2, []api.Hunk{one(3, 2, 3, 3, " d| e|+x")}},
		{"abcde", []api.Edit{edit(2, 1, "")}, 1, []api.Hunk{one(1, 3, 1, 2, " b|-c| d")}},
		{"abc", []api.Edit{edit(1, 1, "b")}, 1, []api.Hunk{one(0, 3, 0, 3, " a|-b|+b| c")}},
		{"123456789", several, 0, []api.Hunk{one(1, 1, 1, 2, "-2|+x|+y"), one(4, 1, 5, 0, "-5"), one(9, 0, 9, 1, "+z")}},
		{"123456789", several, 1, []api.Hunk{one(0, 6, 0, 6, " 1|-2|+x|+y| 3| 4|-5| 6"), one(8, 1, 8, 2, " 9|+z")}},
		{"123456789", several, 2, []api.Hunk{one(0, 9, 0, 10, " 1|-2|+x|+y| 3| 4|-5| 6| 7| 8| 9|+z")}},
	} {
		check(t, list(x.a), x.l, x.around, x.want)
	}
}

// P5.1: twice around lines between two edits join them, and one more doesn't.
func TestBetween(t *testing.T) {
	a := numbers(5000)
	for _, around := range []int{0, 1, 2, 3, 7, 999, 1000} {
		for gap := max(1, 2*around-2); gap <= 2*around+2; gap++ {
			for _, l := range [][]api.Edit{
				{edit(1100, 3, "x"), edit(1103+gap, 0, "yz")}, {edit(1100, 0, "xx"), edit(1100+gap, 2, "")},
			} {
				hs, fail := hunk.Make(a, l, around)
				want := 2
				if gap <= 2*around {
					want = 1
				}
				if fail != api.OK || len(hs) != want {
					t.Fatalf("%d around, %d between: %d hunks, %v", around, gap, len(hs), fail)
				}
				check(t, a, l, around, told(a, l, around))
			}
		}
	}
}

// P5.1: B is how many lines ahead the new ones have: what came and went ahead is in it.
func TestAhead(t *testing.T) {
	a := numbers(30)
	l := []api.Edit{edit(2, 0, "xyz"), edit(9, 2, ""), edit(16, 1, "w"), edit(20, 5, "vu"), edit(30, 0, "t")}
	check(t, a, l, 1, []api.Hunk{
		one(1, 2, 1, 5, " 1|+x|+y|+z| 2"), one(8, 4, 11, 2, " 8|-9|-10| 11"), one(15, 3, 16, 3, " 15|-16|+w| 17"),
		one(19, 7, 20, 4, " 19|-20|-21|-22|-23|-24|+v|+u| 25"), one(29, 1, 27, 2, " 29|+t"),
	})
	b, _ := diff.Play(a, l)
	for around := range 9 {
		hs, _ := hunk.Make(a, l, around)
		for _, h := range hs {
			old, fresh := sides(h)
			if !slices.Equal(old, a[h.A:h.A+h.An]) || !slices.Equal(fresh, b[h.B:h.B+h.Bn]) {
				t.Errorf("%d around: %v isn't of %q and %q", around, h, a, b)
			}
		}
	}
}

// P5.1 to P5.3: all up to three edits, of small numbers, with all small numbers around: the hunks are the document's, and the way back has them the other way round.
func TestAllEdits(t *testing.T) {
	for _, many := range []int{0, 1, 2, 5, 6} {
		a := numbers(many)
		for _, l := range allEdits(many) {
			b, _ := diff.Play(a, l)
			back := diff.Turn(a, l)
			for around := range 4 {
				check(t, a, l, around, told(a, l, around))
				hs, _ := hunk.Make(a, l, around)
				for i := range hs {
					hs[i] = hunk.Turn(hs[i])
				}
				if got, fail := hunk.Make(b, back, around); fail != api.OK || !allSame(got, hs) {
					t.Fatalf("%q, %v, %d around: the way back: %v, %v, not %v", a, l, around, got, fail, hs)
				}
			}
		}
	}
}

// P5.1, P5.3: longer lists, whose edits are what is between them.
func TestLonger(t *testing.T) {
	x := uint32(1)
	some := func(many, kinds int) []string {
		var out []string
		for range many {
			x = x*1664525 + 1013904223
			out = append(out, string(rune('a'+int(x>>16)%kinds)))
		}
		return out
	}
	for i := range 300 {
		a, b := some(i%83, 2+i%23), some(i%97, 2+i%23)
		l := diff.Diff(a, b)
		for _, around := range []int{0, 1, 3, i, 1000} {
			check(t, a, l, around, told(a, l, around))
		}
	}
}

// P5.1: many lines, and many edits.
func TestManyLines(t *testing.T) {
	a := numbers(1 << 18)
	l := []api.Edit{edit(0, 1, ""), edit(1<<17, 1<<16, "x"), edit(1<<18, 0, "y")}
	hs, fail := hunk.Make(a, l, 1000)
	if fail != api.OK || len(hs) != 3 || hs[0].An != 1001 || hs[1].An != 1<<16+2000 || hs[2].A != 1<<18-1000 || hs[2].Bn != 1001 || hs[2].B != 1<<18-1<<16-1000 {
		t.Fatal(len(hs), fail)
	}
	check(t, a, l, 1000, hs)
	l = nil
	for at := range 1 << 16 {
		l = append(l, edit(3*at, 1, "xy"))
	}
	for _, x := range []struct{ around, many int }{{0, 1 << 16}, {1, 1}, {1000, 1}} {
		hs, fail := hunk.Make(a, l, x.around)
		if fail != api.OK || len(hs) != x.many {
			t.Fatal(x, len(hs), fail)
		}
		check(t, a, l, x.around, hs)
	}
}

// P5.1, P5.2: lines are any texts: those of no bytes, of several lines, and ones that look like signs.
func TestAnyLines(t *testing.T) {
	a := []string{"", " ", "-", "+", "a\nb\n", "\x00", "\xff\xfe", "- x\n"}
	l := []api.Edit{{At: 0, Del: 2, Ins: []string{"", "\n"}}, {At: 3, Del: 2, Ins: []string{"+", "-", " "}}, {At: 6, Del: 1}}
	want := []api.Hunk{{An: 8, Bn: 8, Lines: []string{"-", "- ", "+", "+\n", " -", "-+", "-a\nb\n", "++", "+-", "+ ", " \x00", "-\xff\xfe", " - x\n"}}}
	check(t, a, l, 1, want)
	back := api.Hunk{An: 8, Bn: 8, Lines: []string{"-", "-\n", "+", "+ ", " -", "-+", "--", "- ", "++", "+a\nb\n", " \x00", "+\xff\xfe", " - x\n"}}
	if got := hunk.Turn(want[0]); !same(got, back) {
		t.Errorf("turned: %q, not %q", got.Lines, back.Lines)
	}
	long := strings.Repeat("x", 1<<20)
	check(t, []string{long}, []api.Edit{{Del: 1, Ins: []string{long + "\n"}}}, 3, []api.Hunk{{An: 1, Bn: 1, Lines: []string{"-" + long, "+" + long + "\n"}}})
}

// P5.1, R3: edits that aren't right, and numbers around that may not be.
func TestWrongEdits(t *testing.T) {
	if hunk.MaxAround != 1000 {
		t.Fatal(hunk.MaxAround)
	}
	a := list("abcd")
	wrong := func(l []api.Edit, around int) {
		t.Helper()
		if got, fail := hunk.Make(a, l, around); len(got) != 0 || fail != api.ErrArg {
			t.Errorf("%v, %d around: %v, %v", l, around, got, fail)
		}
	}
	for _, l := range [][]api.Edit{
		{edit(0, 0, "")}, {edit(0, 1, ""), edit(3, 0, "")}, {edit(1, -1, "x")}, {edit(-1, 1, "")}, {edit(-1, 0, "x")},
		{edit(5, 0, "x")}, {edit(4, 1, "")}, {edit(0, 5, "")}, {edit(0, 1, ""), edit(3, 2, "x")},
		{edit(0, 1, ""), edit(1, 1, "")}, {edit(0, 0, "x"), edit(0, 0, "x")}, {edit(2, 1, ""), edit(0, 1, "")}, {edit(0, 3, ""), edit(2, 1, "")},
		{edit(math.MaxInt, math.MaxInt, "")}, {edit(math.MinInt, math.MinInt, "x")}, {edit(0, math.MaxInt, "")}, {edit(1, math.MaxInt, "x")}, {edit(0, 1, ""), edit(math.MaxInt, 1, "")},
	} {
		for _, around := range []int{0, 3, 1000, -1, math.MaxInt} {
			wrong(l, around)
		}
	}
	for _, around := range []int{-1, 1001, -2, 1002, math.MinInt, math.MaxInt, math.MaxInt / 2, math.MaxInt/2 + 1} {
		wrong(nil, around)
		wrong([]api.Edit{}, around)
		wrong([]api.Edit{edit(1, 1, "x")}, around)
	}
}

// P5.2: hunks that are right, and ones that are wrong in one way each.
func TestRight(t *testing.T) {
	for _, h := range []api.Hunk{
		{}, one(7, 0, 9, 0, ""), one(0, 1, 0, 1, " a"), one(0, 1, 0, 0, "-a"), one(0, 0, 0, 1, "+a"), one(0, 1, 0, 1, "-a|+b"),
		one(0, 2, 0, 2, "+a| b|-c"), one(0, 2, 0, 1, "-a| b"), one(3, 4, 5, 3, "-a|+b| c|-d|-e|+f"), one(0, 1, 0, 1, " "), one(0, 1, 0, 1, "-|+"),
		one(math.MaxInt, 1, math.MaxInt, 1, "-a|+b"), {Lines: []string{" \n\n", "-a\nb"}, An: 2, Bn: 1},
	} {
		if !hunk.Right(h) {
			t.Errorf("%v isn't right", h)
		}
	}
	for _, h := range []api.Hunk{
		one(-1, 0, 0, 0, ""), one(0, 0, -1, 0, ""), one(math.MinInt, 0, 0, 0, ""), one(0, 0, math.MinInt, 0, ""), one(-1, 1, 0, 1, " a"), one(0, 1, -1, 1, " a"),
		one(0, 1, 0, 0, ""), one(0, 0, 0, 1, ""), one(0, -1, 0, 0, ""), one(0, 0, 0, -1, ""), one(0, math.MaxInt, 0, math.MaxInt, ""),
		one(0, 1, 0, 0, " a"), one(0, 0, 0, 1, " a"), one(0, 2, 0, 1, " a"), one(0, 1, 0, 2, " a"),
		one(0, 1, 0, 1, "-a"), one(0, 0, 0, 1, "-a"), one(0, 1, 0, 1, "+a"), one(0, 1, 0, 0, "+a"), one(0, 2, 0, 0, "-a|+b"), one(0, 0, 0, 2, "-a|+b"),
		one(0, 1, 0, 1, "+a|-b"), one(0, 2, 0, 1, "-a|+b|-c"), one(0, 2, 0, 2, " a|+b|-c"), one(0, 1, 0, 2, "+a|+b|-c"), one(0, 1, 0, 1, "+a|-a"),
		one(0, 1, 0, 1, "a"), one(0, 1, 0, 1, "\ta"), one(0, 1, 0, 1, "\x00"), one(0, 1, 0, 1, "\u00a0a"), one(0, 1, 0, 1, "\\ a"), one(0, 0, 0, 0, "x"), one(0, 0, 0, 0, "\x00"),
		{Lines: []string{""}}, {An: 1, Bn: 1, Lines: []string{""}}, {An: 1, Bn: 1, Lines: []string{" a", ""}}, {An: 1, Bn: 1, Lines: []string{"", " a"}},
	} {
		if hunk.Right(h) {
			t.Errorf("%v is right", h)
		}
		// Nothing is promised of what they tell of it, but that they end, and don't panic.
		hunk.Turn(h)
		hunk.Edits(h)
	}
}

// P5.2: all bytes that a line may begin with, and none, however such a line is counted: three of them are signs.
func TestSigns(t *testing.T) {
	lines := []string{""}
	for x := range 256 {
		lines = append(lines, string([]byte{byte(x)}), string([]byte{byte(x), 'a'}))
	}
	for _, line := range lines {
		for old := range 4 {
			for fresh := range 4 {
				for _, rows := range [][]string{{line}, {" x", line}, {line, " x"}, {"-x", line, "+y"}} {
					h := api.Hunk{An: old, Bn: fresh, Lines: rows}
					if got := hunk.Right(h); got != right(h) {
						t.Errorf("%q, %d, %d: right: %v", rows, old, fresh, got)
					}
				}
			}
		}
	}
}

// P5.2: all short rows of lines, those without a sign among them, with all numbers near: right, where the document says so; those that are turn, and tell edits that do what they do.
func TestAllHunks(t *testing.T) {
	for _, word := range words(6, " -+") {
		held(t, word)
	}
	for _, word := range words(4, " -+x0") {
		held(t, word)
	}
}

// held holds hunks with such signs, 0 being a line without a byte, against the document.
func held(t *testing.T, word string) {
	t.Helper()
	var rows []string
	for i := range len(word) {
		line := word[i:i+1] + string(rune('a'+i))
		if word[i] == '0' {
			line = ""
		}
		rows = append(rows, line)
	}
	old, fresh := len(word)-strings.Count(word, "+"), len(word)-strings.Count(word, "-")
	for _, x := range [][4]int{{0, old, 0, fresh}, {2, old, 5, fresh}, {-1, old, 0, fresh}, {0, old, -1, fresh}, {0, old + 1, 0, fresh}, {0, old - 1, 0, fresh}, {0, old, 0, fresh + 1}, {0, old, 0, fresh - 1}, {0, fresh, 0, old}} {
		h := api.Hunk{A: x[0], An: x[1], B: x[2], Bn: x[3], Lines: rows}
		if got := hunk.Right(h); got != right(h) {
			t.Fatalf("%v: right: %v", h, got)
		}
		back, l := hunk.Turn(h), hunk.Edits(h)
		if right(h) {
			turned(t, h, back)
			edited(t, h, l)
		}
	}
}

// turned holds a right hunk against the other way round: the sides change places, lines that stay stay where they are, and between them all that go stand ahead of those that come.
func turned(t *testing.T, h, back api.Hunk) {
	t.Helper()
	old, fresh := sides(h)
	first, then := sides(back)
	if back.A != h.B || back.An != h.Bn || back.B != h.A || back.Bn != h.An || !slices.Equal(old, then) || !slices.Equal(fresh, first) || !right(back) {
		t.Fatalf("%v turned: %v", h, back)
	}
	for i, line := range h.Lines {
		if (line[0] == ' ') != (back.Lines[i][0] == ' ') || line[0] == ' ' && back.Lines[i] != line {
			t.Fatalf("%v turned: %v: line %d", h, back, i)
		}
	}
	if again := hunk.Turn(back); !same(again, h) {
		t.Fatalf("%v turned twice: %v", h, again)
	}
}

// edited holds a right hunk against the edits that it tells: played, they make one side of the other one, and there is one for all lines between two that stay.
func edited(t *testing.T, h api.Hunk, l []api.Edit) {
	t.Helper()
	var want []api.Edit
	at, open := h.A, false
	for _, line := range h.Lines {
		if line[0] == ' ' {
			at, open = at+1, false
			continue
		}
		if !open {
			want, open = append(want, api.Edit{At: at}), true
		}
		e := &want[len(want)-1]
		if line[0] == '-' {
			at, e.Del = at+1, e.Del+1
		} else {
			e.Ins = append(e.Ins, line[1:])
		}
	}
	if !sameEdits(l, want) {
		t.Fatalf("%v tells %v, not %v", h, l, want)
	}
	old, fresh := sides(h)
	ahead := numbers(h.A)
	if got, ok := diff.Play(slices.Concat(ahead, old), l); !ok || !slices.Equal(got, slices.Concat(ahead, fresh)) {
		t.Fatalf("%v tells %v: played: %q, %v", h, l, got, ok)
	}
}

// P5.2: hunks the other way round, and with their edits, written out.
func TestTurnAndEdits(t *testing.T) {
	for _, x := range []struct {
		h, back api.Hunk
		l       []api.Edit
	}{
		{api.Hunk{}, api.Hunk{}, nil}, {one(3, 0, 7, 0, ""), one(7, 0, 3, 0, ""), nil},
		{one(3, 2, 7, 2, " a| b"), one(7, 2, 3, 2, " a| b"), nil},
		{one(3, 4, 5, 3, "-a|+b| c|-d|-e|+f"), one(5, 3, 3, 4, "-b|+a| c|-f|+d|+e"), []api.Edit{edit(3, 1, "b"), edit(5, 2, "f")}},
		{one(0, 2, 0, 0, "-a|-b"), one(0, 0, 0, 2, "+a|+b"), []api.Edit{edit(0, 2, "")}},
		{one(4, 0, 1, 2, "+a|+b"), one(1, 2, 4, 0, "-a|-b"), []api.Edit{edit(4, 0, "ab")}},
		{one(2, 3, 2, 3, "+a| b|-c| d"), one(2, 3, 2, 3, "-a| b|+c| d"), []api.Edit{edit(2, 0, "a"), edit(3, 1, "")}},
		{one(0, 3, 9, 4, " a|-b|+x|+y| c"), one(9, 4, 0, 3, " a|-x|-y|+b| c"), []api.Edit{edit(1, 1, "xy")}},
	} {
		if got := hunk.Turn(x.h); !same(got, x.back) {
			t.Errorf("%v turned: %v, not %v", x.h, got, x.back)
		}
		if got := hunk.Edits(x.h); !sameEdits(got, x.l) {
			t.Errorf("%v tells %v, not %v", x.h, got, x.l)
		}
	}
}

// R1: numbers at the ends of int.
func TestHuge(t *testing.T) {
	ends := []int{math.MinInt, math.MinInt + 1, -1, 0, 1, 2, math.MaxInt - 1, math.MaxInt}
	for _, a := range ends {
		for _, b := range ends {
			for _, n := range ends {
				for _, rows := range [][]string{nil, {""}, {" a"}, {"-a", "+b"}, {"+b", "-a"}} {
					for _, h := range []api.Hunk{{A: a, An: n, B: b, Bn: n, Lines: rows}, {A: n, An: a, B: n, Bn: b, Lines: rows}} {
						if got := hunk.Right(h); got != right(h) {
							t.Errorf("%v: right: %v", h, got)
						}
						back := hunk.Turn(h)
						hunk.Edits(h)
						if right(h) && !same(hunk.Turn(back), h) {
							t.Errorf("%v turned: %v", h, back)
						}
					}
				}
			}
		}
	}
}

// R4: no list and an empty one are the same, within edits and hunks too.
func TestNil(t *testing.T) {
	none := [][]string{nil, {}}
	for _, x := range none {
		for _, y := range none {
			check(t, x, nil, 3, nil)
			check(t, x, []api.Edit{}, 3, nil)
			check(t, x, []api.Edit{edit(0, 0, "x")}, 3, []api.Hunk{one(0, 0, 0, 1, "+x")})
			check(t, list("x"), []api.Edit{{Del: 1, Ins: y}}, 3, []api.Hunk{one(0, 1, 0, 0, "-x")})
			if _, fail := hunk.Make(x, []api.Edit{{Ins: y}}, 3); fail != api.ErrArg {
				t.Error(fail)
			}
		}
		h := api.Hunk{A: 1, B: 2, Lines: x}
		if !hunk.Right(h) || !same(hunk.Turn(h), one(2, 0, 1, 0, "")) || len(hunk.Edits(h)) != 0 {
			t.Errorf("%v: %v, %v", h, hunk.Turn(h), hunk.Edits(h))
		}
	}
}

// R5: what is handed in is not changed, nor is what stands behind it.
func TestHandedIn(t *testing.T) {
	a := list("abcdefghijkl")
	l := []api.Edit{{At: 1, Del: 1, Ins: append(make([]string, 0, 9), "x", "y")}, {At: 5, Del: 2, Ins: append(make([]string, 0, 9), "z")}, {At: 7, Del: 0, Ins: list("w")}}
	l = append(make([]api.Edit, 0, 9), l[:2]...)
	kept := copiedEdits(l)
	for around := range 5 {
		for n := 7; n < 12; n++ {
			hs, fail := hunk.Make(a[:n], l, around)
			hunk.Make(a[:3], l, around)
			if fail != api.OK || !slices.Equal(a, list("abcdefghijkl")) || !sameEdits(l, kept) || l[0].Ins[:3][2] != "" || l[:3][2].Del != 0 {
				t.Fatalf("%d around: what was handed in was changed: %q, %v, %v", around, a, l, fail)
			}
			whole := copied(hs)
			for i := range hs {
				hs[i].Lines = append(hs[i].Lines, "behind it")[:len(hs[i].Lines)]
				hunk.Right(hs[i])
				hunk.Turn(hs[i])
				hunk.Edits(hs[i])
				if hs[i].Lines[:len(hs[i].Lines)+1][len(hs[i].Lines)] != "behind it" {
					t.Errorf("%d around: behind hunk %d something was changed", around, i)
				}
			}
			if !allSame(hs, whole) {
				t.Errorf("%d around: hunks that were handed in were changed: %v", around, hs)
			}
		}
	}
}

// R5: what is answered is memory of its own: who changes it changes neither what was handed in, nor another part of it.
func TestOwnMemory(t *testing.T) {
	a := list("abcdefghijkl")
	l := []api.Edit{edit(0, 0, "x"), edit(4, 2, "yz"), edit(11, 1, "w")}
	kept := copiedEdits(l)
	spoil := func(lines []string) {
		for i := range lines {
			lines[i] = "spoilt"
		}
		_ = append(lines, "more", "and more")
	}
	for around := range 6 {
		want := told(a, kept, around)
		hs, _ := hunk.Make(a, l, around)
		for i := range hs {
			spoil(hs[i].Lines)
			if !allSame(hs[i+1:], want[i+1:]) {
				t.Errorf("%d around: hunk %d shares its lines", around, i)
			}
		}
		if !slices.Equal(a, list("abcdefghijkl")) || !sameEdits(l, kept) {
			t.Errorf("%d around: hunks share lines with what was handed in: %q, %v", around, a, l)
		}
		hs = copied(want)
		for i := range hs {
			back, edits := hunk.Turn(hs[i]), hunk.Edits(hs[i])
			spoil(back.Lines)
			for k := range edits {
				rest := copiedEdits(edits[k+1:])
				spoil(edits[k].Ins)
				if !sameEdits(edits[k+1:], rest) {
					t.Errorf("%d around: edit %d shares its lines", around, k)
				}
			}
			if !allSame(hs, want) {
				t.Errorf("%d around: what is told of hunk %d shares its lines: %v", around, i, hs)
			}
		}
	}
}

// R6: asked again, whatever was asked between, the same is told.
func TestAgain(t *testing.T) {
	a := numbers(5)
	for range 2 {
		for _, l := range allEdits(5)[:500] {
			check(t, a, l, 1, told(a, l, 1))
			hunk.Make(a, l, -1)
			hunk.Right(one(0, 1, 0, 1, "+a|-b"))
			check(t, a, l, 0, told(a, l, 0))
		}
	}
}
