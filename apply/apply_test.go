package apply_test

import (
	"math"
	"slices"
	"strconv"
	"strings"
	"testing"

	"grapevine/api"
	"grapevine/apply"
	"grapevine/diff"
	"grapevine/hunk"
)

// at is a hunk behind so many lines on either side, with as many as its lines have; they are one text, a bar between any two.
func at(a, b int, rows string) api.Hunk {
	h := api.Hunk{A: a, B: b}
	if rows != "" {
		h.Lines = strings.Split(rows, "|")
	}
	old, fresh := sides(h)
	h.An, h.Bn = len(old), len(fresh)
	return h
}

// off is a hunk with other numbers of lines.
func off(h api.Hunk, an, bn int) api.Hunk {
	h.An, h.Bn = h.An+an, h.Bn+bn
	return h
}

// list is hunks as one.
func list(l ...api.Hunk) []api.Hunk { return l }

// letters are lines, one each.
func letters(s string) []string {
	var out []string
	for i := range len(s) {
		out = append(out, s[i:i+1])
	}
	return out
}

// numbers are lines that are unlike each other.
func numbers(many int) []string {
	var out []string
	for i := range many {
		out = append(out, strconv.Itoa(i))
	}
	return out
}

// words are all of up to so many letters out of some.
func words(many int, of string) []string {
	out := []string{""}
	for from := 0; many > 0; many-- {
		last := out[from:]
		from = len(out)
		for _, s := range last {
			for i := range len(of) {
				out = append(out, s+of[i:i+1])
			}
		}
	}
	return out
}

// same tells whether hunks are, one by one; a list of no lines is one, nil or not.
func same(k, l []api.Hunk) bool {
	return slices.EqualFunc(k, l, func(g, h api.Hunk) bool {
		return g.A == h.A && g.An == h.An && g.B == h.B && g.Bn == h.Bn && slices.Equal(g.Lines, h.Lines)
	})
}

// copied are hunks with memory of their own.
func copied(l []api.Hunk) []api.Hunk {
	out := slices.Clone(l)
	for i := range out {
		out[i].Lines = slices.Clone(out[i].Lines)
	}
	return out
}

// sides are a hunk's lines, without signs, on the old side and on the new one.
func sides(h api.Hunk) (old, fresh []string) {
	for _, line := range h.Lines {
		if strings.Trim(line[:1], " -") == "" {
			old = append(old, line[1:])
		}
		if strings.Trim(line[:1], " +") == "" {
			fresh = append(fresh, line[1:])
		}
	}
	return old, fresh
}

// right is what the document tells of hunks, each one's place reckoned anew.
func right(l []api.Hunk) bool {
	for i, h := range l {
		b := h.A
		for _, g := range l[:i] {
			b += g.Bn - g.An
		}
		if !hunk.Right(h) || h.B != b || i > 0 && h.A < l[i-1].A+l[i-1].An {
			return false
		}
	}
	return true
}

// applied is what the document tells of lines and hunks in another way: from the last hunk to the first one, so that no place moves, the new side takes the old one's.
func applied(a []string, l []api.Hunk) ([]string, api.Errno) {
	if !right(l) {
		return nil, api.ErrForm
	}
	out := slices.Clone(a)
	for _, h := range slices.Backward(l) {
		old, fresh := sides(h)
		end := h.A + h.An
		if end > len(a) || !slices.Equal(a[h.A:end], old) {
			return nil, api.ErrContext
		}
		out = slices.Replace(out, h.A, end, fresh...)
	}
	return out, api.OK
}

// done holds hunks, done to lines, against what is wanted; where they can be done, the other way round they give the lines again.
func done(t *testing.T, a []string, l []api.Hunk, want []string, wrong api.Errno) {
	t.Helper()
	got, fail := apply.Apply(a, l)
	if !slices.Equal(got, want) || fail != wrong || fail != api.OK && len(got) != 0 {
		t.Fatalf("%.99q, %.999v: %.99q, %v, not %.99q, %v", a, l, got, fail, want, wrong)
	}
	if fail != api.OK {
		return
	}
	if again, fail := apply.Apply(got, apply.Turn(l)); !slices.Equal(again, a) || fail != api.OK {
		t.Fatalf("%.99q, %.999v: the other way round: %.99q, %v", a, l, again, fail)
	}
}

// held holds hunks by themselves against whether they are right: those that are turn one by one, and twice turned they are as they were; others don't.
func held(t *testing.T, l []api.Hunk, ok bool) {
	t.Helper()
	if got := apply.Right(l); got != ok {
		t.Fatalf("%.999v: right: %v", l, got)
	}
	var want []api.Hunk
	for _, h := range l {
		if ok {
			want = append(want, hunk.Turn(h))
		}
	}
	back := apply.Turn(l)
	if !same(back, want) || !apply.Right(back) {
		t.Fatalf("%.999v turned: %.999v, not %.999v", l, back, want)
	}
	if again := apply.Turn(back); ok && !same(again, l) {
		t.Fatalf("%.999v turned twice: %.999v", l, again)
	}
}

// check holds hunks, and what they do to lines, against the document.
func check(t *testing.T, a []string, l []api.Hunk) {
	t.Helper()
	held(t, l, right(l))
	want, wrong := applied(a, l)
	done(t, a, l, want, wrong)
}

// P7.1: hunks that are right one behind the other, with how they are the other way round, written out.
func TestRight(t *testing.T) {
	for _, x := range []struct{ l, back []api.Hunk }{
		{nil, nil},
		{list(at(0, 0, "-a|+b")), list(at(0, 0, "-b|+a"))},
		{list(at(7, 7, " a|-b")), list(at(7, 7, " a|+b"))},
		{list(api.Hunk{}), list(api.Hunk{})},
		{list(at(3, 3, ""), at(3, 3, ""), at(9, 9, "")), list(at(3, 3, ""), at(3, 3, ""), at(9, 9, ""))},
		{list(at(0, 0, " 1|-2|+x|+y"), at(4, 5, "-5")), list(at(0, 0, " 1|-x|-y|+2"), at(5, 4, "+5"))},
		// Hunks that touch each other, and ones at one place.
		{list(at(1, 1, "-a"), at(2, 1, "-b")), list(at(1, 1, "+a"), at(1, 2, "+b"))},
		{list(at(2, 2, "+x"), at(2, 3, "+y"), at(2, 4, "-a")), list(at(2, 2, "-x"), at(3, 2, "-y"), at(4, 2, "+a"))},
		{list(at(2, 2, " a"), at(3, 3, "")), list(at(2, 2, " a"), at(3, 3, ""))},
		// What all ahead have more, or less, is counted, not that of the last one alone.
		{list(at(0, 0, "+x|+y"), at(3, 5, "-a"), at(6, 7, " b"), at(8, 9, "-c|-d|-e"), at(20, 18, "+z")), list(at(0, 0, "-x|-y"), at(5, 3, "+a"), at(7, 6, " b"), at(9, 8, "+c|+d|+e"), at(18, 20, "-z"))},
	} {
		held(t, x.l, true)
		if back := apply.Turn(x.l); !same(back, x.back) {
			t.Errorf("%v turned: %v, not %v", x.l, back, x.back)
		}
	}
}

// P7.1, P7.2, R3: hunks that aren't right, each in one way: they turn to none, and are done to no lines.
func TestWrong(t *testing.T) {
	for _, l := range [][]api.Hunk{
		// One by itself that isn't right (chapter 5).
		list(off(at(0, 0, ""), 1, 0)), list(off(at(0, 0, ""), 0, 1)), list(off(at(0, 0, " a"), -1, 0)), list(off(at(0, 0, " a"), 0, -1)), list(off(at(0, 0, " a"), 1, 1)),
		list(at(-1, -1, "")), list(at(-1, -1, " a")), list(at(-1, 0, "")), list(at(0, -1, "")),
		list(at(0, 0, "+x|-a")), list(api.Hunk{Lines: []string{""}}), list(api.Hunk{Lines: []string{"a"}}), list(api.Hunk{An: 1, Bn: 1, Lines: []string{"a"}}), list(api.Hunk{An: 1, Bn: 1, Lines: []string{""}}),
		// The first one's B isn't its A.
		list(at(0, 1, "")), list(at(1, 0, "")), list(at(0, 1, " a")), list(at(1, 0, "-a")), list(at(1, 2, "+x")), list(at(5, 4, "+x")),
		// One stands within the one ahead, or ahead of it.
		list(at(0, 0, " a|-b"), at(1, 0, "")), list(at(1, 1, "-a"), at(1, 0, "-a")), list(at(1, 1, " a"), at(0, 0, " a")), list(at(4, 4, ""), at(3, 3, "")), list(at(0, 0, " a| b"), at(1, 1, "+x")), list(at(4, 4, "-e"), at(0, 0, " a")),
		// One stands on the new side where it doesn't belong.
		list(at(0, 0, "+x"), at(1, 1, " a")), list(at(0, 0, "+x"), at(1, 3, " a")), list(at(0, 0, "-a"), at(2, 2, " a")), list(at(0, 0, "-a"), at(2, 0, " a")),
		list(at(0, 0, "+x"), at(0, 1, "-a"), at(1, 2, "")), list(at(0, 0, "+x"), at(0, 1, "+y"), at(1, 2, "")),
	} {
		right := at(9, 9, " j")
		for _, l := range [][]api.Hunk{l, append(slices.Clone(l), right), append(slices.Clone(l), l...)} {
			held(t, l, false)
			done(t, letters("abcdefghij"), l, nil, api.ErrForm)
			done(t, nil, l, nil, api.ErrForm)
		}
	}
	// The last one of several alone.
	for _, h := range []api.Hunk{at(2, 3, ""), off(at(3, 3, ""), 0, 1), at(1, 1, ""), at(0, 0, " a")} {
		held(t, list(at(0, 0, " a"), at(1, 1, "-b|+x"), h), false)
	}
}

// P7.2: hunks done to lines, written out.
func TestApply(t *testing.T) {
	for _, x := range []struct {
		a    string
		l    []api.Hunk
		want string
	}{
		{"", nil, ""}, {"abc", nil, "abc"},
		{"a", list(at(0, 0, "-a|+b")), "b"},
		{"abcde", list(at(0, 0, " a|-b|+x|+y"), at(4, 5, "-e")), "axycd"},
		{"", list(at(0, 0, "+x|+y")), "xy"}, {"ab", list(at(0, 0, "-a|-b")), ""},
		{"ab", list(at(0, 0, "+x")), "xab"}, {"ab", list(at(1, 1, "+x")), "axb"}, {"ab", list(at(2, 2, "+x")), "abx"},
		// Hunks at one place are done in order; ones that touch see the old lines, not what came.
		{"ab", list(at(1, 1, "+x"), at(1, 2, "+y"), at(1, 3, "-b|+z")), "axyz"},
		{"ab", list(at(0, 0, "-a|+b"), at(1, 1, "-b|+a")), "ba"},
		{"aab", list(at(0, 0, "-a"), at(1, 0, "-a|+c"), at(2, 1, " b|+d")), "cbd"},
		// Nothing is changed, wherever it is said, the end too.
		{"abc", list(at(1, 1, " b| c")), "abc"}, {"abc", list(at(0, 0, ""), at(3, 3, ""), at(3, 3, "")), "abc"}, {"", list(api.Hunk{}, api.Hunk{}), ""},
		{"abc", list(at(0, 0, "-a|+a"), at(2, 2, "-c|+c")), "abc"},
		// Lines that stay, go and come by turns.
		{"abcdef", list(at(1, 1, "+x| b|-c|-d|+y| e|-f")), "axbye"},
	} {
		done(t, letters(x.a), x.l, letters(x.want), api.OK)
	}
}

// P7.2, R2, R3: lines that aren't what hunks say, or aren't there.
func TestContext(t *testing.T) {
	for _, x := range []struct {
		a string
		l []api.Hunk
	}{
		{"c", list(at(0, 0, "-a|+b"))}, {"c", list(at(0, 0, " a"))}, {"", list(at(0, 0, "-a"))}, {"", list(at(0, 0, " a"))}, {"A", list(at(0, 0, "-a"))},
		// At its place, not at another one, nor where new lines have it.
		{"ba", list(at(0, 0, "-a"))}, {"ab", list(at(1, 1, "-a"))}, {"abc", list(at(0, 0, "+x"), at(1, 2, "-a"))}, {"abc", list(at(0, 0, "-a"), at(2, 1, "-b"))}, {"ab", list(at(0, 0, "-a|+b"), at(1, 1, "-c|+a"))},
		{"ab", list(at(0, 0, "-a|+c"), at(1, 1, "-a"))}, {"ab", list(at(0, 0, " a|+b| c"))}, {"aab", list(at(0, 0, " a| b"))},
		// The lines end ahead of the hunk, or within it.
		{"ab", list(at(1, 1, " b|-c"))}, {"ab", list(at(1, 1, " b| c"))}, {"ab", list(at(2, 2, "-c"))}, {"ab", list(at(2, 2, "+c| d"))}, {"ab", list(at(3, 3, "-c"))}, {"ab", list(at(9, 9, " c"))}, {"ab", list(at(0, 0, "-a"), at(1, 0, "-b"), at(2, 0, "-c"))},
		// A hunk without a line that stays or goes, above the lines' number.
		{"ab", list(at(3, 3, "+x"))}, {"ab", list(at(3, 3, ""))}, {"", list(at(1, 1, "+x"))}, {"", list(at(1, 1, ""))}, {"ab", list(at(2, 2, "+x|+y"), at(3, 5, ""))}, {"ab", list(at(0, 0, ""), at(1<<40, 1<<40, ""))},
		// Only the last hunk, or line, doesn't belong.
		{"abcde", list(at(0, 0, "-a|+x"), at(2, 2, "-c|+x"), at(4, 4, "-f|+x"))}, {"abcde", list(at(0, 0, " a| b| c| d| f"))},
	} {
		held(t, x.l, true)
		done(t, letters(x.a), x.l, nil, api.ErrContext)
	}
	// What isn't right is told, whatever else is wrong ahead of it.
	done(t, letters("ab"), list(at(0, 0, "-b"), at(1, 1, "")), nil, api.ErrForm)
	done(t, nil, list(at(7, 7, "-b"), at(0, 0, "+x|-b")), nil, api.ErrForm)
}

// P7.1, P7.2: all hunks of up to two lines by themselves, with all numbers near, done to all short lists.
func TestAllSingle(t *testing.T) {
	all := words(3, "ab")
	for _, rows := range rows() {
		for a := -1; a <= 3; a++ {
			for b := a - 1; b <= a+1; b++ {
				for an := -1; an <= 1; an++ {
					for bn := -1; bn <= 1; bn++ {
						for _, s := range all {
							check(t, letters(s), list(off(at(a, b, rows), an, bn)))
						}
					}
				}
			}
		}
	}
}

// rows are all of up to two lines of a hunk, out of a and b.
func rows() []string {
	one := []string{" a", "-a", "+a", " b", "-b", "+b"}
	out := append([]string{""}, one...)
	for _, x := range one {
		for _, y := range one {
			out = append(out, x+"|"+y)
		}
	}
	return out
}

// P7.1, P7.2: all two hunks of up to two lines, near each other, and near where they belong, done to all short lists.
func TestAllPairs(t *testing.T) {
	all := words(3, "ab")
	for _, first := range rows() {
		for a := range 3 {
			h := at(a, a, first)
			for _, then := range rows() {
				for to := a; to <= a+3; to++ {
					for more := -1; more <= 1; more++ {
						l := list(h, at(to, to+h.Bn-h.An+more, then))
						held(t, l, right(l))
						want, wrong := applied(letters("aba"), l)
						done(t, letters("aba"), l, want, wrong)
						if wrong == api.ErrForm {
							continue
						}
						for _, s := range all {
							want, wrong := applied(letters(s), l)
							done(t, letters(s), l, want, wrong)
						}
					}
				}
			}
		}
	}
}

// some are lists that are made by a rule, each unlike the last one.
type some uint32

// below is a number.
func (s *some) below(n int) int {
	*s = *s*1664525 + 1013904223
	return int(*s>>16) % n
}

// lines are some of several kinds.
func (s *some) lines(many, kinds int) []string {
	var out []string
	for range many {
		out = append(out, strconv.Itoa(s.below(kinds)))
	}
	return out
}

// P7.1 to P7.4: longer lists, and what is between them; and that with one line, number, or hunk amiss.
func TestLonger(t *testing.T) {
	s := some(7)
	for i := range 3000 {
		a := s.lines(i%31, 2+i%7)
		b := slices.Clone(a)
		for range i % 5 {
			from := s.below(len(b) + 1)
			b = slices.Replace(b, from, min(from+s.below(3), len(b)), s.lines(s.below(3), 2+i%7)...)
		}
		l := between(t, a, b, i%4)
		check(t, a, l)
		for k := range a {
			spoilt := slices.Clone(a)
			spoilt[k] = "spoilt"
			check(t, spoilt, l)
			check(t, slices.Delete(slices.Clone(a), k, k+1), l)
			check(t, slices.Insert(slices.Clone(a), k, a[k]), l)
		}
		for k := range l {
			for _, n := range []int{-2, -1, 1, 2} {
				for field := range 4 {
					off := copied(l)
					*[]*int{&off[k].A, &off[k].An, &off[k].B, &off[k].Bn}[field] += n
					check(t, a, off)
				}
				moved := copied(l)
				moved[k].A, moved[k].B = moved[k].A+n, moved[k].B+n
				check(t, a, moved)
			}
			check(t, a, slices.Delete(copied(l), k, k+1))
			check(t, a, slices.Insert(copied(l), k, l[k]))
		}
	}
}

// between is what is between two lists, held against the document: the hunks of the edits, that make the other one of each.
func between(t *testing.T, a, b []string, around int) []api.Hunk {
	t.Helper()
	l, fail := apply.Between(a, b, around)
	want, e := hunk.Make(a, diff.Diff(a, b), around)
	if !same(l, want) || fail != api.OK || e != api.OK {
		t.Fatalf("%.99q to %.99q, %d around: %.999v, %v, not %.999v, %v", a, b, around, l, fail, want, e)
	}
	held(t, l, true)
	done(t, a, l, b, api.OK)
	done(t, b, apply.Turn(l), a, api.OK)
	return l
}

// P7.3: what is between two lists, written out.
func TestBetween(t *testing.T) {
	for _, x := range []struct {
		a, b   string
		around int
		want   []api.Hunk
	}{
		{"", "", 0, nil}, {"abc", "abc", 1000, nil}, {"a", "b", 0, list(at(0, 0, "-a|+b"))}, {"a", "b", 1000, list(at(0, 0, "-a|+b"))},
		{"abc", "axc", 0, list(at(1, 1, "-b|+x"))}, {"abc", "axc", 1, list(at(0, 0, " a|-b|+x| c"))},
		{"abcde", "axyd", 0, list(at(1, 1, "-b|-c|+x|+y"), at(4, 4, "-e"))}, {"abcde", "axyd", 1, list(at(0, 0, " a|-b|-c|+x|+y| d|-e"))},
		{"abcdefg", "xabcdeg", 1, list(at(0, 0, "+x| a"), at(4, 5, " e|-f| g"))}, {"abcdefg", "xabcdeg", 2, list(at(0, 0, "+x| a| b"), at(3, 4, " d| e|-f| g"))},
		{"", "ab", 3, list(at(0, 0, "+a|+b"))}, {"ab", "", 3, list(at(0, 0, "-a|-b"))},
	} {
		if l := between(t, letters(x.a), letters(x.b), x.around); !same(l, x.want) {
			t.Errorf("%q to %q, %d around: %v, not %v", x.a, x.b, x.around, l, x.want)
		}
	}
}

// P7.3, P7.4: all short lists: what is between, applied, is the other one, and the other way round the first one again.
func TestBetweenAll(t *testing.T) {
	all := append(words(5, "ab"), words(3, "abc")...)
	for _, s := range all {
		for _, z := range all {
			for around := range 3 {
				between(t, letters(s), letters(z), around)
			}
		}
	}
}

// P7.3, R1, R3: numbers around at the ends of what may be, and beyond; lists of many lines.
func TestAround(t *testing.T) {
	a := numbers(1 << 17)
	b := slices.Concat(a[:5000], []string{"x"}, a[5001:])
	for _, around := range []int{0, 1, 999, 1000} {
		l := between(t, a, b, around)
		if len(l) != 1 || l[0].A != 5000-around || l[0].An != 2*around+1 {
			t.Errorf("%d around: %d hunks", around, len(l))
		}
	}
	for _, around := range []int{-1, 1001, -2, 1002, -1000, math.MinInt, math.MaxInt, math.MaxInt/2 + 1} {
		for _, b := range [][]string{nil, a[:9], b[:9], a[:10]} {
			if l, fail := apply.Between(a[:9], b, around); len(l) != 0 || fail != api.ErrArg {
				t.Errorf("%d around: %v, %v", around, l, fail)
			}
			if l, fail := apply.Between(nil, b, around); len(l) != 0 || fail != api.ErrArg {
				t.Errorf("%d around: %v, %v", around, l, fail)
			}
		}
	}
}

// P7.1, P7.2: lines are any texts: those of no bytes, of several lines, and ones that look like signs.
func TestAnyLines(t *testing.T) {
	a := []string{"", " ", "-", "+", "a\nb\n", "\x00", "\xff\xfe", "- x\n"}
	b := []string{"", "\n", "-", "", "+a", "\x00", "\xff\xfe\n", "- x\n"}
	for around := range 9 {
		between(t, a, b, around)
	}
	check(t, a, list(at(0, 0, " |- |++"), at(2, 2, "--|-+|+"), at(5, 4, " \x00|-\xff\xfe| - x\n")))
	for _, x := range []struct{ line, row string }{{"a", " a\n"}, {"a\n", " a"}, {"", " \n"}, {" a", " a"}, {"a", "  a"}, {"-a", "-a"}, {"\u00e9", " e\u0301"}, {"a\x00", " a"}, {"", "- "}} {
		done(t, []string{x.line}, list(at(0, 0, x.row)), nil, api.ErrContext)
	}
	long := strings.Repeat("x", 1<<20)
	done(t, []string{long}, list(at(0, 0, "-"+long+"|+"+long+"\n")), []string{long + "\n"}, api.OK)
	done(t, []string{long + "\n"}, list(at(0, 0, "-"+long)), nil, api.ErrContext)
}

// P7.1, P7.2: numbers up to 2^40 on either side of 0, at which right ones are told from others still.
func TestGreat(t *testing.T) {
	const end = 1 << 40
	for _, l := range [][]api.Hunk{
		list(at(end, end, "")), list(at(0, 0, "-a|+b"), at(end, end, "+x")), list(at(end-2, end-2, "-a|-b"), at(end, end-2, "+x"), at(end, end-1, "")),
		list(at(0, 0, "-a|-b"), at(end, end-2, " a")), list(at(0, 0, "+x"), at(end-1, end, "+y")),
		list(at(end, end-1, "")), list(at(end, 0, "")), list(at(0, end, "")), list(at(-end, -end, "")), list(at(-end, end, "")), list(at(end, -end, "+x")),
		list(at(end, end, "-a"), at(end, end-1, "")), list(at(end-1, end-1, "-a"), at(end, end, "")), list(off(at(0, 0, ""), end, end)), list(off(at(0, 0, ""), -end, -end)), list(off(at(end, end, " a"), end, -end)),
	} {
		check(t, letters("ab"), l)
		check(t, nil, l)
	}
}

// R1: numbers at the ends of int, of which nothing is promised, but that all ends, and nothing panics.
func TestHuge(t *testing.T) {
	ends := []int{math.MinInt, math.MinInt + 1, -1, 0, 1, math.MaxInt - 1, math.MaxInt}
	var all []api.Hunk
	for _, a := range ends {
		for _, b := range ends {
			for _, rows := range []string{"", " a", "-a|+b", "+b", "-a"} {
				all = append(all, at(a, b, rows))
			}
			all = append(all, api.Hunk{An: a, Bn: b}, api.Hunk{A: b, An: a, B: a, Bn: b, Lines: []string{" a"}}, api.Hunk{A: a, B: b, Lines: []string{""}})
		}
	}
	for _, g := range all {
		for _, h := range all {
			for _, l := range [][]api.Hunk{{h}, {g, h}, {g, at(0, 0, "-a"), h}} {
				apply.Right(l)
				apply.Turn(l)
				apply.Apply(letters("ab"), l)
				apply.Apply(nil, l)
			}
		}
	}
}

// P7.1 to P7.4: as many hunks as may be; what is wrong in the last one of them is seen.
func TestManyHunks(t *testing.T) {
	const many = 100000
	a := numbers(2*many + 1)
	var l []api.Hunk
	var b []string
	for i := range many {
		l = append(l, at(2*i, 3*i, "-"+a[2*i]+"|+x|+y"))
		b = append(b, "x", "y", a[2*i+1])
	}
	b = append(b, a[2*many])
	held(t, l, true)
	done(t, a, l, b, api.OK)
	done(t, a[:2*many-2], l, nil, api.ErrContext)
	last := l[many-1]
	l[many-1].B++
	held(t, l, false)
	done(t, a, l, nil, api.ErrForm)
	l[many-1] = last
	l[many-1].Lines = []string{"-z", "+x", "+y"}
	done(t, a, l, nil, api.ErrContext)
}

// R4: no list and an empty one are the same, within hunks too.
func TestNil(t *testing.T) {
	for _, none := range [][]string{nil, {}} {
		for _, l := range [][]api.Hunk{nil, {}, {{Lines: none}}, {{Lines: none}, {Lines: none}}} {
			held(t, l, true)
			done(t, none, l, none, api.OK)
			done(t, letters("ab"), l, letters("ab"), api.OK)
		}
		done(t, none, list(api.Hunk{A: 1, B: 1, Lines: none}), nil, api.ErrContext)
		done(t, none, list(at(0, 0, "+x")), letters("x"), api.OK)
		done(t, letters("x"), list(at(0, 0, "-x")), none, api.OK)
		between(t, none, none, 3)
		between(t, none, letters("x"), 3)
		between(t, letters("x"), none, 3)
	}
}

// R5: what is handed in is not changed, nor is what stands behind it, whether it goes well or not.
func TestHandedIn(t *testing.T) {
	whole := letters("abcdefgh")
	l := append(make([]api.Hunk, 0, 9), at(0, 0, " a|-b|+x"), at(4, 4, "+y| e"))
	for i := range l {
		l[i].Lines = append(l[i].Lines, "behind it")[:len(l[i].Lines)]
	}
	kept := copied(l)
	for n := range whole {
		for from := range n + 1 {
			apply.Apply(whole[from:n], l)
			apply.Apply(whole[from:n], l[1:])
			apply.Apply(whole[from:n], nil)
			apply.Between(whole[:n], whole[from:], 1)
			apply.Right(l)
			apply.Turn(l)
			apply.Turn(l[1:])
		}
	}
	if !slices.Equal(whole, letters("abcdefgh")) || !same(l, kept) || l[:3][2].Lines != nil {
		t.Errorf("what was handed in was changed: %q, %v", whole, l)
	}
	for i := range l {
		if many := len(l[i].Lines); l[i].Lines[:many+1][many] != "behind it" {
			t.Errorf("behind the lines of hunk %d something was changed", i)
		}
	}
}

// R5: what is answered is memory of its own: who changes it changes neither what was handed in, nor another part of it.
func TestOwnMemory(t *testing.T) {
	a, b := letters("abcdefgh"), letters("axcdefghy")
	want, _ := apply.Between(a, b, 1)
	for _, l := range [][]api.Hunk{nil, want, list(at(3, 3, " d"))} {
		kept := copied(l)
		got, _ := apply.Apply(a, l)
		for i := range got {
			got[i] = "spoilt"
		}
		if !slices.Equal(a, letters("abcdefgh")) || !same(l, kept) {
			t.Errorf("what lines became shares theirs: %q, %v", a, l)
		}
	}
	spoil := func(l []api.Hunk) {
		for i := range l {
			rest := copied(l[i+1:])
			for k := range l[i].Lines {
				l[i].Lines[k] = "spoilt"
			}
			_ = append(l[i].Lines, "more", "and more")
			if !same(l[i+1:], rest) {
				t.Errorf("hunk %d shares its lines", i)
			}
			l[i] = api.Hunk{A: -1}
		}
	}
	kept := copied(want)
	spoil(apply.Turn(want))
	made, _ := apply.Between(a, b, 1)
	spoil(made)
	if len(want) < 2 || !same(want, kept) || !slices.Equal(a, letters("abcdefgh")) || !slices.Equal(b, letters("axcdefghy")) {
		t.Errorf("what was answered is shared: %v, %q, %q", want, a, b)
	}
}

// R6: asked again, whatever was asked between, and went wrong, the same is told.
func TestAgain(t *testing.T) {
	l := list(at(0, 0, " a|-b|+x"), at(2, 2, "+y| c"))
	for range 3 {
		done(t, letters("abc"), l, letters("axyc"), api.OK)
		done(t, letters("abd"), l, nil, api.ErrContext)
		done(t, letters("abc"), l[1:], letters("abyc"), api.OK)
		done(t, letters("abc"), list(l[1], l[0]), nil, api.ErrForm)
		between(t, letters("abc"), letters("axyc"), 1)
	}
}
