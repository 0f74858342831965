package align_test

import (
	"math"
	"slices"
	"strconv"
	"strings"
	"testing"

	"grapevine/align"
	"grapevine/api"
	"grapevine/diff"
)

// letters are lines, one each.
func letters(s string) []string {
	var out []string
	for i := range len(s) {
		out = append(out, s[i:i+1])
	}
	return out
}

// numbers are lines that are unlike each other.
func numbers(many int) []string {
	var out []string
	for i := range many {
		out = append(out, strconv.Itoa(i))
	}
	return out
}

// words are all of up to so many letters out of some.
func words(many int, of string) []string {
	out := []string{""}
	for from := 0; many > 0; many-- {
		last := out[from:]
		from = len(out)
		for _, s := range last {
			for i := range len(of) {
				out = append(out, s+of[i:i+1])
			}
		}
	}
	return out
}

// region is one, with its spans' places and lengths: of o, a, and b.
func region(kind, o, on, a, an, b, bn int) api.Region {
	return api.Region{Kind: kind, O: api.Span{From: o, Many: on}, A: api.Span{From: a, Many: an}, B: api.Span{From: b, Many: bn}}
}

// row is regions one behind the other, from a word each: a kind's letter, and how many lines it has of o, a, and b.
func row(s string) []api.Region {
	var out []api.Region
	o, a, b := 0, 0, 0
	for _, x := range strings.Fields(s) {
		on, an, bn := int(x[1]-'0'), int(x[2]-'0'), int(x[3]-'0')
		out = append(out, region(strings.IndexByte("SLRBC", x[0]), o, on, a, an, b, bn))
		o, a, b = o+on, a+an, b+bn
	}
	return out
}

// changed are regions with the sides changed.
func changed(l []api.Region) []api.Region {
	var out []api.Region
	for _, r := range l {
		r.A, r.B = r.B, r.A
		switch r.Kind {
		case api.Left:
			r.Kind = api.Right
		case api.Right:
			r.Kind = api.Left
		}
		out = append(out, r)
	}
	return out
}

// meet tells whether two edits do.
func meet(e, f api.Edit) bool { return e.At <= f.At+f.Del && f.At <= e.At+e.Del }

// group is edits of both sides, and where they are in o.
type group struct {
	from, to int
	a, b     []api.Edit
}

// meets tells whether an edit of one group meets one of another.
func (g group) meets(h group) bool {
	for _, e := range slices.Concat(g.a, g.b) {
		for _, f := range slices.Concat(h.a, h.b) {
			if meet(e, f) {
				return true
			}
		}
	}
	return false
}

// groups are the clusters, as the document tells them: each edit by itself first, then any two that have edits that meet together, till none are left; by their places.
func groups(a, b []api.Edit) []group {
	var out []group
	for _, e := range a {
		out = append(out, group{from: e.At, to: e.At + e.Del, a: []api.Edit{e}})
	}
	for _, e := range b {
		out = append(out, group{from: e.At, to: e.At + e.Del, b: []api.Edit{e}})
	}
	for i := 0; i < len(out); i++ {
		for k := i + 1; k < len(out); k++ {
			if g, h := out[i], out[k]; g.meets(h) {
				out[i] = group{min(g.from, h.from), max(g.to, h.to), slices.Concat(g.a, h.a), slices.Concat(g.b, h.b)}
				out = slices.Delete(out, k, k+1)
				i, k = 0, 0
			}
		}
	}
	slices.SortFunc(out, func(g, h group) int { return g.from - h.from })
	return out
}

// shifted is where a place of o's is on a side, if so many edits' are ahead of it.
func shifted(at int, ahead []api.Edit) int {
	for _, e := range ahead {
		at += len(e.Ins) - e.Del
	}
	return at
}

// parted are the regions of three lists, as the document tells them, each one's places reckoned anew, from all edits ahead of it.
func parted(o, a, b []string) []api.Region {
	var out []api.Region
	var ofA, ofB []api.Edit
	at := 0
	stable := func(to int) {
		if to > at {
			out = append(out, region(api.Stable, at, to-at, shifted(at, ofA), to-at, shifted(at, ofB), to-at))
		}
	}
	for _, g := range groups(diff.Diff(o, a), diff.Diff(o, b)) {
		stable(g.from)
		fromA, fromB := shifted(g.from, ofA), shifted(g.from, ofB)
		ofA, ofB = append(ofA, g.a...), append(ofB, g.b...)
		at = g.to
		toA, toB := shifted(at, ofA), shifted(at, ofB)
		kind := api.Clash
		if len(g.b) == 0 {
			kind = api.Left
		} else if len(g.a) == 0 {
			kind = api.Right
		} else if slices.Equal(a[fromA:toA], b[fromB:toB]) {
			kind = api.Both
		}
		out = append(out, region(kind, g.from, g.to-g.from, fromA, toA-fromA, fromB, toB-fromB))
	}
	stable(len(o))
	return out
}

// right is what the document tells of regions, each one's places reckoned anew. (Its sums are of small numbers.)
func right(l []api.Region, o, a, b []string) bool {
	for i, side := range [][]string{o, a, b} {
		at := 0
		for _, r := range l {
			s := []api.Span{r.O, r.A, r.B}[i]
			if s.From != at || s.Many < 0 {
				return false
			}
			at += s.Many
		}
		if at != len(side) {
			return false
		}
	}
	for _, r := range l {
		x, y, z := cut(o, r.O), cut(a, r.A), cut(b, r.B)
		ok := map[int]bool{api.Stable: x == y && y == z, api.Left: x == z, api.Right: x == y, api.Both: y == z, api.Clash: true}
		if !ok[r.Kind] {
			return false
		}
	}
	return true
}

// cut is a span's lines, quoted, as one text.
func cut(l []string, s api.Span) string {
	out := ""
	for _, line := range l[s.From : s.From+s.Many] {
		out += strconv.Quote(line)
	}
	return out
}

// check holds the regions of three lists against what is wanted, and with the sides changed.
func check(t *testing.T, o, a, b []string, want []api.Region) {
	t.Helper()
	l := align.Regions(o, a, b)
	if !slices.Equal(l, want) {
		t.Fatalf("%.99q, %.99q, %.99q: %v, not %v", o, a, b, l, want)
	}
	if !align.Right(l, o, a, b) {
		t.Fatalf("%.99q, %.99q, %.99q: not right: %v", o, a, b, l)
	}
	other := align.Regions(o, b, a)
	if !slices.Equal(other, changed(want)) || !align.Right(other, o, b, a) {
		t.Fatalf("%.99q, %.99q, %.99q: with the sides changed: %v, not %v", o, b, a, other, changed(want))
	}
}

// held holds whether regions are right against whether they should be, and with the sides changed.
func held(t *testing.T, l []api.Region, o, a, b []string, ok bool) {
	t.Helper()
	if got := align.Right(l, o, a, b); got != ok {
		t.Fatalf("%v of %.99q, %.99q, %.99q: right: %v", l, o, a, b, got)
	}
	if got := align.Right(changed(l), o, b, a); got != ok {
		t.Fatalf("%v of %.99q, %.99q, %.99q: right: %v", changed(l), o, b, a, got)
	}
}

// P8.1, P8.3: lists with their regions, written out.
func TestKnown(t *testing.T) {
	for _, x := range []struct{ o, a, b, want string }{
		{"123", "1x3", "1234", "S111 L111 S111 R001"},
		// No line, or none that was changed.
		{"", "", "", ""}, {"a", "a", "a", "S111"}, {"abc", "abc", "abc", "S333"},
		// One side alone, in the middle, and at the ends.
		{"abc", "axc", "abc", "S111 L111 S111"}, {"abc", "abc", "axc", "S111 R111 S111"}, {"abc", "xbc", "abc", "L111 S222"}, {"abc", "abc", "abx", "S222 R111"},
		{"ab", "xab", "ab", "L010 S222"}, {"ab", "ab", "abx", "S222 R001"}, {"ab", "b", "ab", "L101 S111"}, {"ab", "ab", "a", "S111 R110"}, {"ab", "", "ab", "L202"}, {"", "ab", "", "L020"}, {"", "", "ab", "R002"},
		// One side twice: its edits are a region each.
		{"abcde", "axcye", "abcde", "S111 L111 S111 L111 S111"}, {"abc", "xaybzc", "abc", "L010 S111 L010 S111 L010 S111"},
		// Both sides alike.
		{"abc", "axc", "axc", "S111 B111 S111"}, {"ab", "", "", "B200"}, {"", "ab", "ab", "B022"}, {"abc", "ac", "ac", "S111 B100 S111"}, {"a", "xy", "xy", "B122"},
		// Both sides, and not alike.
		{"abc", "axc", "ayc", "S111 C111 S111"}, {"a", "b", "c", "C111"}, {"", "a", "b", "C011"}, {"", "a", "ab", "C012"}, {"abc", "axc", "ac", "S111 C110 S111"}, {"ab", "", "xy", "C202"}, {"a", "a1", "a2", "S111 C011"},
		// With one line between, they don't meet; where one ends and the other one begins they do.
		{"abcde", "axcde", "abcye", "S111 L111 S111 R111 S111"}, {"abcd", "axcd", "abyd", "S111 C222 S111"}, {"abc", "xbc", "abyc", "L111 S111 R001 S111"}, {"abc", "xbc", "aybc", "C112 S222"}, {"abc", "xabc", "ybc", "C121 S222"}, {"abc", "axbc", "abxc", "S111 L010 S111 R001 S111"},
		{"abcd", "acd", "abd", "S111 C211 S111"}, {"abcd", "bcd", "acd", "C211 S222"}, {"abcd", "bcd", "abd", "L101 S111 R110 S111"},
		// An edit of one side within a longer one of the other side's.
		{"abcdefg", "axyzwvg", "abcXefg", "S111 C555 S111"}, {"abcdefg", "ag", "abcXefg", "S111 C505 S111"}, {"abcdefg", "ag", "aXcdYfg", "S111 C505 S111"}, {"abcd", "ad", "abxcd", "S111 C203 S111"},
		// Each leads to the next one, though the first one and the last one are far from each other.
		{"abcdefgh", "axydezwh", "abcXYfgh", "S111 C666 S111"}, {"abcdef", "acef", "abdf", "S111 C422 S111"}, {"abcdefghi", "aXcdYfghi", "abUdeVghi", "S111 C222 S111 C222 S333"},
		// They meet, and are alike together, though their edits by themselves aren't told at one place alone.
		{"abcdef", "xf", "xf", "B511 S111"}, {"abxcdef", "aycdefz", "aycdefz", "S111 B211 S444 B011"},
		// What both changed, and each one alone, one behind the other.
		{"abcdefghi", "1bcd5efghi", "1bcdef7hi", "B111 S333 L010 S222 R111 S222"}, {"abcdefghi", "abXdYfgZi", "abXdUfghiV", "S222 B111 S111 C111 S222 L111 S111 R001"},
	} {
		check(t, letters(x.o), letters(x.a), letters(x.b), row(x.want))
	}
}

// P8.1 to P8.3: all short lists.
func TestAllShort(t *testing.T) {
	for _, x := range []struct {
		many int
		of   string
	}{{4, "ab"}, {3, "abc"}} {
		all := words(x.many, x.of)
		for _, o := range all {
			for _, a := range all {
				for _, b := range all {
					x, y, z := letters(o), letters(a), letters(b)
					check(t, x, y, z, parted(x, y, z))
				}
			}
		}
	}
}

// some are lists that are made by a rule, each unlike the last one.
type some uint32

// below is a number.
func (s *some) below(n int) int {
	*s = *s*1664525 + 1013904223
	return int(*s>>16) % n
}

// lines are some of several kinds.
func (s *some) lines(many, kinds int) []string {
	var out []string
	for range many {
		out = append(out, strconv.Itoa(s.below(kinds)))
	}
	return out
}

// side is lines with some changes.
func (s *some) side(o []string, changes, kinds int) []string {
	out := slices.Clone(o)
	for range changes {
		from := s.below(len(out) + 1)
		out = slices.Replace(out, from, min(from+s.below(3), len(out)), s.lines(s.below(3), kinds)...)
	}
	return out
}

// P8.1 to P8.3: longer lists, changed at few places, and at many; their regions with one number or kind amiss, without one, and with one twice.
func TestLonger(t *testing.T) {
	s := some(8)
	for i := range 3000 {
		kinds := 2 + i%11
		o := s.lines(i%37, kinds)
		a, b := s.side(o, i%5, kinds), s.side(o, i%7, kinds)
		l := parted(o, a, b)
		check(t, o, a, b, l)
		for k := range l {
			for kind := -1; kind <= 5; kind++ {
				m := slices.Clone(l)
				m[k].Kind = kind
				held(t, m, o, a, b, right(m, o, a, b))
			}
			for _, n := range []int{-2, -1, 1, 2} {
				for at := range 6 {
					m := slices.Clone(l)
					*numbersOf(&m[k])[at] += n
					held(t, m, o, a, b, false)
				}
			}
			m := slices.Delete(slices.Clone(l), k, k+1)
			held(t, m, o, a, b, false)
			m = slices.Insert(slices.Clone(l), k, l[k])
			held(t, m, o, a, b, false)
		}
	}
}

// numbersOf are a region's places and lengths.
func numbersOf(r *api.Region) []*int {
	return []*int{&r.O.From, &r.O.Many, &r.A.From, &r.A.Many, &r.B.From, &r.B.Many}
}

// P8.2: regions that are right, though Regions tells others, and ones that aren't, each in one way.
func TestRight(t *testing.T) {
	for _, x := range []struct {
		o, a, b, l string
		ok         bool
	}{
		{"", "", "", "", true}, {"", "", "", "S000", true}, {"", "", "", "C000 L000 R000 B000 S000", true},
		// Lists that lack regions, or end ahead of these.
		{"a", "", "", "", false}, {"", "a", "", "", false}, {"", "", "a", "", false}, {"ab", "ab", "ab", "S111", false}, {"a", "a", "a", "S222", false}, {"a", "a", "a", "S111 C100", false}, {"a", "a", "a", "S111 C010", false}, {"a", "a", "a", "S111 C001", false},
		// Parted further, or less, than they need be.
		{"abc", "abc", "abc", "S111 S222", true}, {"abc", "abc", "abc", "S111 S000 S222", true}, {"abc", "axc", "ayc", "C333", true}, {"abc", "axc", "abc", "L333", true}, {"abc", "axc", "abc", "S111 L101 L010 S111", true},
		// A Stable one has the same lines three times.
		{"a", "b", "b", "S111", false}, {"a", "a", "b", "S111", false}, {"a", "b", "a", "S111", false}, {"ab", "ab", "ac", "S222", false}, {"aa", "a", "a", "S211", false}, {"a", "aa", "a", "S121", false}, {"a", "a", "aa", "S112", false},
		// A Left one has o's and b's, whatever a's are.
		{"a", "b", "a", "L111", true}, {"a", "a", "a", "L111", true}, {"a", "", "a", "L101", true}, {"a", "a", "b", "L111", false}, {"a", "b", "b", "L111", false}, {"a", "b", "c", "L111", false}, {"a", "a", "", "L110", false}, {"", "", "a", "L001", false},
		// A Right one has o's and a's, whatever b's are.
		{"a", "a", "b", "R111", true}, {"a", "a", "a", "R111", true}, {"a", "a", "", "R110", true}, {"a", "b", "a", "R111", false}, {"a", "b", "b", "R111", false}, {"a", "b", "c", "R111", false}, {"a", "", "a", "R101", false}, {"", "a", "", "R010", false},
		// Both has a's and b's, whatever o's are.
		{"a", "b", "b", "B111", true}, {"a", "a", "a", "B111", true}, {"a", "", "", "B100", true}, {"", "a", "a", "B011", true}, {"a", "a", "b", "B111", false}, {"a", "b", "a", "B111", false}, {"a", "b", "c", "B111", false}, {"", "a", "", "B010", false}, {"", "", "a", "B001", false},
		// A Clash may have any.
		{"a", "b", "c", "C111", true}, {"a", "b", "b", "C111", true}, {"a", "a", "a", "C111", true}, {"a", "", "bc", "C102", true},
		// The second one alone is wrong.
		{"ab", "ac", "ac", "S111 L111", false}, {"ab", "ac", "ad", "S111 B111", false}, {"ab", "ac", "ad", "C111 B111", false}, {"ab", "ac", "ad", "S111 C111", true},
		// The same lines, but at other places.
		{"ab", "ba", "ab", "S111 S111", false}, {"ab", "ba", "ab", "L222", true},
	} {
		held(t, row(x.l), letters(x.o), letters(x.a), letters(x.b), x.ok)
	}
	// Kinds that aren't one of the five.
	for _, kind := range []int{-1, 5, 6, -5, 1 << 8, 1 << 32, math.MinInt, math.MaxInt} {
		held(t, []api.Region{{Kind: kind}}, nil, nil, nil, false)
		held(t, []api.Region{region(kind, 0, 1, 0, 1, 0, 1)}, letters("a"), letters("a"), letters("a"), false)
	}
	// Places that don't go on, though the lengths are right.
	a := letters("aa")
	for _, wrong := range []int{-1, 0, 2, math.MinInt, math.MaxInt} {
		held(t, []api.Region{region(0, 0, 1, 0, 1, 0, 1), region(0, wrong, 1, 1, 1, 1, 1)}, a, a, a, false)
		held(t, []api.Region{region(0, 0, 1, 0, 1, 0, 1), region(0, 1, 1, wrong, 1, 1, 1)}, a, a, a, false)
		held(t, []api.Region{region(0, 0, 1, 0, 1, 0, 1), region(0, 1, 1, 1, 1, wrong, 1)}, a, a, a, false)
		held(t, []api.Region{region(0, 0, 2, 0, 2, 0, 2), region(0, wrong, 0, 2, 0, 2, 0)}, a, a, a, wrong == 2)
		held(t, []api.Region{region(0, 0, 2, 0, 2, 0, 2), region(0, 2, 0, 2, 0, wrong, 0)}, a, a, a, wrong == 2)
	}
}

// P8.2: a single region of each kind, with all numbers near, of all lists of up to two lines.
func TestAllSingle(t *testing.T) {
	all := words(2, "ab")
	var spans []api.Span
	for from := -1; from <= 1; from++ {
		for many := -1; many <= 3; many++ {
			spans = append(spans, api.Span{From: from, Many: many})
		}
	}
	for _, o := range all {
		for _, a := range all {
			for _, b := range all {
				x, y, z := letters(o), letters(a), letters(b)
				for kind := -1; kind <= 5; kind++ {
					for i := range len(spans) * len(spans) * len(spans) {
						r := api.Region{Kind: kind, O: spans[i%15], A: spans[i/15%15], B: spans[i/225]}
						l := []api.Region{r}
						if got := align.Right(l, x, y, z); got != right(l, x, y, z) {
							t.Fatalf("%v of %q, %q, %q: %v", r, o, a, b, got)
						}
					}
				}
			}
		}
	}
}

// P8.2, R1: numbers at the ends of int, and sums that go round: they are wrong, and nothing panics.
func TestHuge(t *testing.T) {
	const least, most = math.MinInt, math.MaxInt
	a := letters("a")
	ends := []int{least, least + 1, -1 << 62, -1, 0, 1, 2, 1 << 32, 1 << 62, most - 1, most}
	for _, from := range ends {
		for _, many := range ends {
			ok := from == 0 && many == 1
			for kind := range 5 {
				held(t, []api.Region{region(kind, from, many, 0, 1, 0, 1)}, a, a, a, ok)
				held(t, []api.Region{region(kind, 0, 1, from, many, 0, 1)}, a, a, a, ok)
				held(t, []api.Region{region(kind, 0, 1, 0, 1, from, many)}, a, a, a, ok)
				held(t, []api.Region{region(kind, from, many, from, many, from, many)}, a, a, a, ok)
			}
			last := from == 1 && many == 0
			held(t, []api.Region{region(0, 0, 1, 0, 1, 0, 1), region(4, from, many, 1, 0, 1, 0)}, a, a, a, last)
			held(t, []api.Region{region(0, 0, 1, 0, 1, 0, 1), region(4, 1, 0, from, many, 1, 0)}, a, a, a, last)
			held(t, []api.Region{region(0, 0, 1, 0, 1, 0, 1), region(4, 1, 0, 1, 0, from, many)}, a, a, a, last)
		}
	}
	// Added up and gone round they would end where the lists do.
	for _, s := range [][]api.Span{
		{{From: 0, Many: most}, {From: most, Many: most}, {From: -2, Many: 3}}, {{From: 0, Many: most}, {From: most, Many: 1}, {From: least, Many: most}, {From: -1, Many: 2}},
		{{From: 0, Many: most}, {From: most, Many: 1 - most}}, {{From: 0, Many: 2}, {From: 2, Many: -1}}, {{From: 0, Many: -1}, {From: -1, Many: 2}}, {{From: 0, Many: least}, {From: least, Many: least}, {From: 0, Many: 1}},
	} {
		for at := range 3 {
			var l []api.Region
			for i, x := range s {
				r := region(api.Clash, min(i, 1), 1-min(i, 1), min(i, 1), 1-min(i, 1), min(i, 1), 1-min(i, 1))
				*[]*api.Span{&r.O, &r.A, &r.B}[at] = x
				l = append(l, r)
			}
			held(t, l, a, a, a, false)
		}
	}
}

// P8.1, P8.2: lines are any texts: those of no bytes, of several lines, that are no text, and the same bytes elsewhere.
func TestAnyLines(t *testing.T) {
	other := string([]byte("a\n"))
	long := strings.Repeat("x", 1<<20)
	for _, x := range []struct {
		o, a, b []string
		want    string
	}{
		{[]string{""}, []string{""}, []string{""}, "S111"}, {[]string{""}, nil, []string{""}, "L101"}, {nil, []string{""}, nil, "L010"}, {nil, []string{""}, []string{""}, "B011"}, {nil, []string{""}, []string{"", ""}, "C012"},
		{[]string{"a\n"}, []string{other}, []string{"a"}, "R111"}, {[]string{"a\n"}, []string{"b"}, []string{"b\n"}, "C111"}, {[]string{"ab"}, []string{"a", "b"}, []string{"ab"}, "L121"}, {[]string{"x"}, []string{"a", "b"}, []string{"ab"}, "C121"}, {[]string{"x"}, []string{"a\nb", ""}, []string{"a\n", "b"}, "C122"},
		{[]string{"\xff", "\x00"}, []string{"\xff", "\x00\x00"}, []string{"\xfe", "\x00"}, "C222"}, {[]string{"\u00e9"}, []string{"e\u0301"}, []string{"\u00e9"}, "L111"}, {[]string{"A"}, []string{"a"}, []string{"a"}, "B111"},
		{[]string{long}, []string{long + "\n"}, []string{long}, "L111"}, {[]string{"<<<<<<<\n"}, []string{"=======\n"}, []string{">>>>>>>\n"}, "C111"},
	} {
		check(t, x.o, x.a, x.b, row(x.want))
	}
	held(t, row("S111"), []string{"a"}, []string{"a\n"}, []string{"a"}, false)
	held(t, row("B121"), nil, []string{"a", "b"}, []string{"ab"}, false)
	held(t, row("B021"), nil, []string{"a", "b"}, []string{"ab"}, false)
	held(t, row("B022"), nil, []string{"a", "b"}, []string{"ab", ""}, false)
}

// P8.1 to P8.3: above what is looked through line by line all that is between is one edit, whatever of it could stay.
func TestMaxCells(t *testing.T) {
	for _, many := range []int{255, 256, 257, 300} {
		o, a, b := numbers(many), numbers(many), numbers(many)
		for i := range many {
			if i%2 == 0 {
				a[i] = "x" + a[i]
			}
		}
		a[many-1] = "x"
		b[many/2|1] = "y"
		check(t, o, a, b, parted(o, a, b))
		if l := align.Regions(o, a, b); many > 256 && !slices.Equal(l, []api.Region{region(api.Clash, 0, many, 0, many, 0, many)}) {
			t.Errorf("%d lines: %v", many, l)
		}
	}
}

// P8.1 to P8.3: as many regions as may be within what is looked through line by line, and lists of many lines.
func TestMany(t *testing.T) {
	o := numbers(1 << 17)
	a := slices.Concat([]string{"first"}, o[:70000], []string{"x"}, o[70100:])
	b := slices.Concat(o[:1000], []string{"y"}, o[1001:])
	check(t, o, o, o, []api.Region{region(api.Stable, 0, 1<<17, 0, 1<<17, 0, 1<<17)})
	check(t, o, o, b, []api.Region{region(api.Stable, 0, 1000, 0, 1000, 0, 1000), region(api.Right, 1000, 1, 1000, 1, 1000, 1), region(api.Stable, 1001, 1<<17-1001, 1001, 1<<17-1001, 1001, 1<<17-1001)})
	check(t, o, a, b, []api.Region{region(api.Clash, 0, 70100, 0, 70002, 0, 70100), region(api.Stable, 70100, 1<<17-70100, 70002, 1<<17-70100, 70100, 1<<17-70100)})
	check(t, o, nil, nil, []api.Region{region(api.Both, 0, 1<<17, 0, 0, 0, 0)})
	check(t, nil, o, a, []api.Region{region(api.Clash, 0, 0, 0, 1<<17, 0, len(a))})
	o = numbers(256)
	var l []api.Region
	c, d := slices.Clone(o), slices.Clone(o)
	for i := range 256 {
		kind := api.Stable
		switch i % 4 {
		case 0:
			c[i], kind = "c", api.Left
		case 2:
			d[i], kind = "d", api.Right
		}
		l = append(l, region(kind, i, 1, i, 1, i, 1))
	}
	check(t, o, c, d, l)
	// Right is asked of more regions than Regions would tell.
	o = numbers(1 << 17)
	l = nil
	for i := range o {
		l = append(l, region(i%5, i, 1, i, 1, i, 1))
	}
	held(t, l, o, o, o, true)
	l[len(l)-2].Kind = 5
	held(t, l, o, o, o, false)
}

// R4: no list and an empty one are the same.
func TestNil(t *testing.T) {
	for _, none := range [][]string{nil, {}} {
		for _, l := range [][]api.Region{nil, {}} {
			held(t, l, none, none, none, true)
			held(t, l, none, []string{}, nil, true)
			held(t, l, none, letters("a"), none, false)
			check(t, none, none, none, l)
		}
		check(t, none, letters("a"), none, row("L010"))
		check(t, none, letters("a"), letters("b"), row("C011"))
		check(t, letters("a"), none, []string{}, row("B100"))
		check(t, letters("a"), none, letters("a"), row("L101"))
	}
}

// R5: what is handed in is not changed, nor is what stands behind it.
func TestHandedIn(t *testing.T) {
	whole, kept := letters("abcxbcdaybcd"), letters("abcxbcdaybcd")
	l := append(make([]api.Region, 0, 9), row("S111 L212 C131")...)
	for from := range whole {
		for to := range whole[from:] {
			align.Regions(whole[from:from+to], whole[:to], whole[from:])
			align.Regions(whole[:to], whole[from:from+to], whole[to:])
			align.Right(l, whole[from:from+to], whole[:to], whole[from:])
			align.Right(l[:2], whole[:3], whole[:2], whole[:3])
		}
	}
	if !slices.Equal(whole, kept) || !slices.Equal(l, row("S111 L212 C131")) || l[:4][3] != (api.Region{}) {
		t.Errorf("what was handed in was changed: %q, %v", whole, l)
	}
}

// R5: what is answered is memory of its own: who changes it, or the lists that were handed in, changes nothing else.
func TestOwnMemory(t *testing.T) {
	o, a, b := letters("abcdefgh"), letters("axcdefgh"), letters("abcdyfghz")
	want := row("S111 L111 S222 R111 S333 R001")
	first := align.Regions(o, a, b)
	second := align.Regions(o, a, b)
	for i := range second {
		second[i] = region(9, 9, 9, 9, 9, 9, 9)
	}
	_ = append(second, region(9, 9, 9, 9, 9, 9, 9))
	check(t, o, a, b, want)
	for i := range o {
		o[i], a[i], b[i] = "spoilt", "", "spoilt"
	}
	if !slices.Equal(first, want) {
		t.Errorf("what was answered was changed: %v", first)
	}
}

// R6: asked again, whatever was asked between, the same is told.
func TestAgain(t *testing.T) {
	o, a, b := letters("abcde"), letters("axcde"), letters("abcdz")
	for range 3 {
		check(t, o, a, b, row("S111 L111 S222 R111"))
		check(t, a, o, b, row("S111 B111 S222 R111"))
		held(t, row("S111 L111 S222 R111"), o, a, b, true)
		held(t, row("S111 R111 S222 R111"), o, a, b, false)
		held(t, row("S111 L111 S222"), o, a, b, false)
		held(t, nil, nil, nil, nil, true)
	}
}
