package merge_test

import (
	"slices"
	"strconv"
	"strings"
	"testing"

	"grapevine/align"
	"grapevine/api"
	"grapevine/merge"
)

// letters are lines, one each: of a dot one of no bytes, of a great letter an open one, of each other sign a closed one.
func letters(s string) []string {
	var out []string
	for i := range len(s) {
		line := s[i : i+1]
		switch {
		case line == ".":
			line = ""
		case line < "A" || line > "Z":
			line += "\n"
		}
		out = append(out, line)
	}
	return out
}

// marked are letters' lines with marks, of a sign each; those between marks are closed.
func marked(s string) []string {
	var out []string
	within := false
	for i := range len(s) {
		switch s[i] {
		case '<':
			out, within = append(out, "<<<<<<<\n"), true
		case '|':
			out = append(out, "|||||||\n")
		case '=':
			out = append(out, "=======\n")
		case '>':
			out, within = append(out, ">>>>>>>\n"), false
		default:
			line := letters(s[i : i+1])[0]
			if within {
				line = shut(line)
			}
			out = append(out, line)
		}
	}
	return out
}

// lists are all of up to so many lines out of some.
func lists(many int, of ...string) [][]string {
	out, last := [][]string{nil}, [][]string{nil}
	for range many {
		var next [][]string
		for _, l := range last {
			for _, line := range of {
				next = append(next, append(slices.Clone(l), line))
			}
		}
		out, last = append(out, next...), next
	}
	return out
}

// texts are all of up to so many of some.
func texts(many int, of ...string) []string {
	var out []string
	for _, l := range lists(many, of...) {
		out = append(out, strings.Join(l, ""))
	}
	return out
}

// told is what the document tells of three lists' regions: their lines, and how many clash.
func told(o, a, b []string) ([]string, int) {
	var out []string
	n := 0
	for _, r := range align.Regions(o, a, b) {
		old, ours, theirs := o[r.O.From:][:r.O.Many], a[r.A.From:][:r.A.Many], b[r.B.From:][:r.B.Many]
		if r.Kind == api.Clash {
			n++
			out = append(out, "<<<<<<<\n")
			for _, line := range ours {
				out = append(out, shut(line))
			}
			out = append(out, "|||||||\n")
			for _, line := range old {
				out = append(out, shut(line))
			}
			out = append(out, "=======\n")
			for _, line := range theirs {
				out = append(out, shut(line))
			}
			out = append(out, ">>>>>>>\n")
		} else if r.Kind == api.Right {
			out = append(out, theirs...)
		} else {
			out = append(out, ours...)
		}
	}
	return out, n
}

// shut is a line with its last byte 10.
func shut(line string) string {
	if line == "" || line[len(line)-1] != 10 {
		return line + "\n"
	}
	return line
}

// split is a text's lines.
func split(s string) []string {
	l := strings.SplitAfter(s, "\n")
	if l[len(l)-1] == "" {
		l = l[:len(l)-1]
	}
	return l
}

// greater is the greater one of two texts, byte by byte.
func greater(a, b string) string {
	for i := range min(len(a), len(b)) {
		if a[i] != b[i] {
			if a[i] > b[i] {
				return a
			}
			return b
		}
	}
	if len(a) > len(b) {
		return a
	}
	return b
}

// toldText is what the document tells of three texts.
func toldText(o, a, b string) (string, int) {
	if a == b || b == o {
		return a, 0
	}
	if a == o {
		return b, 0
	}
	for _, x := range []byte(o + a + b) {
		if x == 0 {
			return greater(a, b), 1
		}
	}
	l, n := told(split(o), split(a), split(b))
	return strings.Join(l, ""), n
}

// check holds three lists' lines against what is wanted.
func check(t *testing.T, o, a, b, want []string, clashes int) {
	t.Helper()
	if l, n := merge.Lines(o, a, b); !slices.Equal(l, want) || n != clashes {
		t.Fatalf("%.99q, %.99q, %.99q: %.999q, %d, not %.999q, %d", o, a, b, l, n, want, clashes)
	}
}

// checkText holds three texts, together, against what is wanted.
func checkText(t *testing.T, o, a, b, want string, clashes int) {
	t.Helper()
	if s, n := merge.Text(o, a, b); s != want || n != clashes {
		t.Fatalf("%.99q, %.99q, %.99q: %.999q, %d, not %.999q, %d", o, a, b, s, n, want, clashes)
	}
}

// changed holds what three lists are with the sides changed against what they are.
func changed(t *testing.T, o, a, b []string) {
	t.Helper()
	l, n := merge.Lines(o, a, b)
	m, k := merge.Lines(o, b, a)
	if n != k || n == 0 && !slices.Equal(l, m) {
		t.Fatalf("%.99q, %.99q, %.99q: %.999q, %d; with the sides changed %.999q, %d", o, a, b, l, n, m, k)
	}
}

// P9.1: the marks are those that the document writes.
func TestMarks(t *testing.T) {
	if merge.Ours != "<<<<<<<\n" || merge.Base != "|||||||\n" || merge.Middle != "=======\n" || merge.Theirs != ">>>>>>>\n" {
		t.Errorf("%q, %q, %q, %q", merge.Ours, merge.Base, merge.Middle, merge.Theirs)
	}
}

// P9.1: lists with their lines, written out.
func TestLinesKnown(t *testing.T) {
	for _, x := range []struct {
		o, a, b, want string
		clashes       int
	}{
		// The document's example, with lines that are open.
		{"O", "A", "B", "<A|O=B>", 1}, {"o.", "A.", "b.", "<A|o=b>.", 1}, {"", ".", "x", "<.|=x>", 1}, {".", "X.", "Y", "<X.|.=Y>", 1},
		// No line, or none that was changed.
		{"", "", "", "", 0}, {"abc", "abc", "abc", "abc", 0}, {"aB", "aB", "aB", "aB", 0}, {".", ".", ".", ".", 0}, {"A.B", "A.B", "A.B", "A.B", 0},
		// One side alone.
		{"abc", "axc", "abc", "axc", 0}, {"abc", "abc", "axc", "axc", 0}, {"abc", "ac", "abc", "ac", 0}, {"abc", "abc", "ac", "ac", 0}, {"", "ab", "", "ab", 0}, {"", "", "ab", "ab", 0}, {"ab", "", "ab", "", 0}, {"ab", "ab", "", "", 0}, {"abc", "aX.", "abc", "aX.", 0}, {"abc", "abc", "aX.", "aX.", 0},
		// Both, and alike.
		{"abc", "axc", "axc", "axc", 0}, {"abc", "", "", "", 0}, {"", "A.", "A.", "A.", 0}, {"abc", "ac", "ac", "ac", 0},
		// Each by itself, one behind the other.
		{"123", "1x3", "1234", "1x34", 0}, {"12345", "x2345", "1234y", "x234y", 0}, {"12345", "1234y", "x2345", "x234y", 0}, {"12345", "2345", "12y45", "2y45", 0}, {"abcdefghi", "1bcd5efghi", "1bcdef7hi", "1bcd5ef7hi", 0}, {"a.c", "X.c", "a.Y", "X.Y", 0},
		// Both, and not alike.
		{"abc", "axc", "ayc", "a<x|b=y>c", 1}, {"abc", "xbc", "ybc", "<x|a=y>bc", 1}, {"abc", "abx", "aby", "ab<x|c=y>", 1}, {"", "a", "b", "<a|=b>", 1}, {"ab", "", "x", "<|ab=x>", 1}, {"ab", "x", "", "<x|ab=>", 1}, {"abc", "axyc", "ac", "a<xy|b=>c", 1}, {"abcd", "axcd", "abyd", "a<xc|bc=by>d", 1}, {"ab", "acb", "adeb", "a<c|=de>b", 1},
		// Several clashes, and changes of one side between.
		{"abcde", "xbcdy", "zbcdu", "<x|a=z>bcd<y|e=u>", 2}, {"abcdefg", "1bcXe2g", "3bcde4g", "<1|a=3>bcXe<2|f=4>g", 2}, {"abcdefghi", "abXdYfgZi", "abXdUfghiV", "abXd<Y|e=U>fgZiV", 1},
	} {
		check(t, letters(x.o), letters(x.a), letters(x.b), marked(x.want), x.clashes)
		changed(t, letters(x.o), letters(x.a), letters(x.b))
	}
}

// P9.1: what is open is closed by a byte 10 behind it, in a Clash alone; a line of no bytes, too; what ends with a byte 10 stays, whatever stands ahead of it.
func TestClosed(t *testing.T) {
	for _, x := range []struct{ line, want string }{
		{"", "\n"}, {"x", "x\n"}, {"x\n", "x\n"}, {"\n", "\n"}, {"\n\n", "\n\n"}, {"x\ny", "x\ny\n"}, {"x\ny\n", "x\ny\n"}, {"x\r", "x\r\n"}, {"\nx", "\nx\n"}, {"\x00", "\x00\n"}, {"\n\x00", "\n\x00\n"}, {"\xff", "\xff\n"}, {"\u010a", "\u010a\n"}, {"\u0a0a", "\u0a0a\n"}, {"x\\n", "x\\n\n"}, {"<<<<<<<", "<<<<<<<\n"}, {">>>>>>>\n", ">>>>>>>\n"},
	} {
		p, q := "p", "q\n"
		one, other := []string{p}, []string{q}
		this := []string{x.line}
		check(t, one, this, other, []string{merge.Ours, x.want, merge.Base, "p\n", merge.Middle, q, merge.Theirs}, 1)
		check(t, one, other, this, []string{merge.Ours, q, merge.Base, "p\n", merge.Middle, x.want, merge.Theirs}, 1)
		check(t, this, one, other, []string{merge.Ours, "p\n", merge.Base, x.want, merge.Middle, q, merge.Theirs}, 1)
		// Each line of a region, not its last one alone.
		check(t, this, append(this, this[0], p), append(this, q, this[0]), []string{x.line, merge.Ours, x.want, "p\n", merge.Base, merge.Middle, q, x.want, merge.Theirs}, 1)
		// Elsewhere all lines stay as they are.
		check(t, one, this, one, this, 0)
		check(t, one, one, this, this, 0)
		check(t, one, this, this, this, 0)
		check(t, this, this, this, this, 0)
		check(t, []string{x.line, p}, []string{x.line, "a"}, []string{x.line, "b"}, []string{x.line, merge.Ours, "a\n", merge.Base, "p\n", merge.Middle, "b\n", merge.Theirs}, 1)
	}
}

// P9.1: sides that have marks as their lines: these are lines like others.
func TestMarksWithin(t *testing.T) {
	o := []string{merge.Ours, "a\n", merge.Base, "b\n", merge.Middle, "c\n", merge.Theirs}
	a := slices.Replace(slices.Clone(o), 1, 2, "x\n")
	b := slices.Replace(slices.Clone(o), 1, 2, "y\n")
	check(t, o, o, o, o, 0)
	check(t, o, a, o, a, 0)
	check(t, o, a, b, slices.Concat([]string{merge.Ours, merge.Ours, "x\n", merge.Base, "a\n", merge.Middle, "y\n", merge.Theirs}, o[2:]), 1)
	check(t, []string{merge.Base}, []string{merge.Middle}, []string{merge.Ours}, []string{merge.Ours, merge.Middle, merge.Base, merge.Base, merge.Middle, merge.Ours, merge.Theirs}, 1)
	// What was put together once is a side like others.
	l, _ := merge.Lines(o, a, b)
	check(t, o, l, o, l, 0)
	check(t, l, a, l, a, 0)
	check(t, o, l, l, l, 0)
}

// P9.1, P9.3: all short lists, and with the sides changed.
func TestLinesAllShort(t *testing.T) {
	for _, all := range [][][]string{lists(3, "a\n", "b", ""), lists(4, "a\n", "b\n"), lists(2, "a", "a\n", "", "\n", "a\nb")} {
		for _, o := range all {
			for _, a := range all {
				for _, b := range all {
					want, clashes := told(o, a, b)
					check(t, o, a, b, want, clashes)
					changed(t, o, a, b)
				}
			}
			for _, a := range all {
				check(t, o, a, o, a, 0)
				check(t, o, o, a, a, 0)
				check(t, o, a, a, a, 0)
			}
		}
	}
}

// some are numbers that are made by a rule, each unlike the last one.
type some uint32

// below is a number.
func (s *some) below(n int) int {
	*s = *s*1664525 + 1013904223
	return int(*s>>16) % n
}

// lines are some of several kinds, now and then one that is open.
func (s *some) lines(many, kinds int) []string {
	var out []string
	for range many {
		line := strconv.Itoa(s.below(kinds))
		if s.below(9) > 0 {
			line += "\n"
		}
		out = append(out, line)
	}
	return out
}

// side is lines with some changes.
func (s *some) side(o []string, changes, kinds int) []string {
	out := slices.Clone(o)
	for range changes {
		from := s.below(len(out) + 1)
		out = slices.Replace(out, from, min(from+s.below(3), len(out)), s.lines(s.below(3), kinds)...)
	}
	return out
}

// P9.1 to P9.3: longer lists, and texts, changed at few places, and at many.
func TestLonger(t *testing.T) {
	s := some(9)
	for i := range 5000 {
		kinds := 2 + i%11
		o := s.lines(i%41, kinds)
		a, b := s.side(o, i%5, kinds), s.side(o, i%7, kinds)
		want, clashes := told(o, a, b)
		check(t, o, a, b, want, clashes)
		changed(t, o, a, b)
		x, y, z := strings.Join(o, ""), strings.Join(a, ""), strings.Join(b, "")
		text, n := toldText(x, y, z)
		checkText(t, x, y, z, text, n)
		other, m := toldText(x, z, y)
		checkText(t, x, z, y, other, m)
		if n != m || n == 0 && text != other {
			t.Fatalf("%q, %q, %q: %q, %d; with the sides changed %q, %d", x, y, z, text, n, other, m)
		}
	}
}

// P9.2: texts, written out.
func TestTextKnown(t *testing.T) {
	const clash = "<<<<<<<\n2\n|||||||\n1\n=======\n3\n>>>>>>>\n"
	for _, x := range []struct {
		o, a, b, want string
		clashes       int
	}{
		{"1", "2", "3", clash, 1}, {"1\n", "2\n", "3\n", clash, 1}, {"1", "2\n", "3", clash, 1}, {"1\n", "2", "3\n", clash, 1},
		// All are one, or two of them.
		{"", "", "", "", 0}, {"1", "1", "1", "1", 0}, {"1", "2", "2", "2", 0}, {"1", "2", "1", "2", 0}, {"1", "1", "2", "2", 0}, {"1", "", "1", "", 0}, {"1", "1", "", "", 0}, {"1", "", "", "", 0}, {"", "1", "", "1", 0}, {"", "", "1", "1", 0}, {"", "1", "1", "1", 0},
		// So are texts with a byte 0.
		{"\x00", "\x00", "\x00", "\x00", 0}, {"\x00", "2", "2", "2", 0}, {"\x00", "\x00", "2", "2", 0}, {"\x00", "2", "\x00", "2", 0}, {"1", "\x00", "\x00", "\x00", 0}, {"1", "\x00", "1", "\x00", 0}, {"1", "1", "\x00", "\x00", 0},
		// One of the three has a byte 0: the greater one of the two sides, whichever that is in.
		{"\x00", "b", "a", "b", 1}, {"\x00", "a", "b", "b", 1}, {"o", "\x00", "a", "a", 1}, {"o", "a", "\x00", "a", 1}, {"o", "z\x00", "a", "z\x00", 1}, {"o", "a", "z\x00", "z\x00", 1}, {"1\n2\n\x00", "x\n2\n\x00", "1\n2\n3\n\x00", "x\n2\n\x00", 1}, {"1\n2\n3\n\x00", "1\n2\n3\nx\x00", "y\n2\n3\n\x00", "y\n2\n3\n\x00", 1},
		{"\x00", "", "a", "a", 1}, {"\x00", "a", "", "a", 1}, {"o", "\x00", "", "\x00", 1}, {"o", "", "\x00", "\x00", 1},
		// What another one begins with is less; a byte is less than another one as a number, whatever sign it is in.
		{"\x00", "ab", "a", "ab", 1}, {"\x00", "a", "ab", "ab", 1}, {"o", "a\x00", "a", "a\x00", 1}, {"o", "a", "a\x00", "a\x00", 1}, {"\x00", "b", "ab", "b", 1}, {"\x00", "aaaa", "b", "b", 1}, {"\x00", "\xff", "\x7f", "\xff", 1}, {"\x00", "\x7f", "\x80", "\x80", 1}, {"\x00", "Z", "a", "a", 1}, {"\x00", "z", "\u00e9", "\u00e9", 1}, {"\x00", "\uffff", "\U00010000", "\U00010000", 1}, {"\x00", "10", "9", "9", 1}, {"\x00", "a\n", "a", "a\n", 1}, {"\x00", "a\n", "a\t", "a\n", 1},
		// Lines of one side, and of both.
		{"1\n2\n3\n", "x\n2\n3\n", "1\n2\ny\n", "x\n2\ny\n", 0}, {"1\n2\n3\n", "1\n2\n3", "x\n2\n3\n", "x\n2\n3", 0}, {"1\n2\n3", "1\n2\n3\n", "x\n2\n3", "x\n2\n3\n", 0}, {"1\n2\n3", "1\n2\n3\n4", "2\n3", "2\n3\n4", 0}, {"1\n2\n3\n", "1\n2\n", "0\n1\n2\n3\n", "0\n1\n2\n", 0}, {"1\n2\n3", "x\n2\n3", "1\n2\nx", "x\n2\nx", 0},
		// Clashes, with lines that are open, and none on a side.
		{"1", "", "2", "<<<<<<<\n|||||||\n1\n=======\n2\n>>>>>>>\n", 1}, {"1", "2", "", "<<<<<<<\n2\n|||||||\n1\n=======\n>>>>>>>\n", 1}, {"", "1", "2", "<<<<<<<\n1\n|||||||\n=======\n2\n>>>>>>>\n", 1}, {"", "1", "1\n", "<<<<<<<\n1\n|||||||\n=======\n1\n>>>>>>>\n", 1}, {"0", "1", "1\n", "<<<<<<<\n1\n|||||||\n0\n=======\n1\n>>>>>>>\n", 1}, {"1", "1\n", "2", "<<<<<<<\n1\n|||||||\n1\n=======\n2\n>>>>>>>\n", 1}, {"1\n2", "1\n2\n3", "1\n4", "1\n<<<<<<<\n2\n3\n|||||||\n2\n=======\n4\n>>>>>>>\n", 1},
		{"1\n2\n3\n4\n5", "a\n2\n3\n4\nb", "c\n2\n3\n4\nd", "<<<<<<<\na\n|||||||\n1\n=======\nc\n>>>>>>>\n2\n3\n4\n<<<<<<<\nb\n|||||||\n5\n=======\nd\n>>>>>>>\n", 2},
		// Only a byte 10 ends a line.
		{"1\r2\r", "x\r2\r", "1\ry\r", "<<<<<<<\nx\r2\r\n|||||||\n1\r2\r\n=======\n1\ry\r\n>>>>>>>\n", 1}, {"1\r\n2\r\n3\r\n", "x\r\n2\r\n3\r\n", "1\r\n2\r\ny\r\n", "x\r\n2\r\ny\r\n", 0},
		// Bytes that are no text, but none is 0.
		{"\xff\n\x01\n\xc3", "\xfe\n\x01\n\xc3", "\xff\n\x01\n\xc3(", "\xfe\n\x01\n\xc3(", 0}, {"0", "\\0", "\\x00", "<<<<<<<\n\\0\n|||||||\n0\n=======\n\\x00\n>>>>>>>\n", 1},
	} {
		checkText(t, x.o, x.a, x.b, x.want, x.clashes)
	}
}

// P9.2, P9.3: all short texts of bytes that matter, and with the sides changed.
func TestTextAllShort(t *testing.T) {
	for _, all := range [][]string{texts(3, "\x00", "\n", "a", "b"), texts(5, "\n", "a"), texts(2, "\n", "\x01", "\x00", "\x80", "\xff", "a")} {
		for _, o := range all {
			for i, a := range all {
				for _, b := range all[i:] {
					want, clashes := toldText(o, a, b)
					checkText(t, o, a, b, want, clashes)
					other, n := toldText(o, b, a)
					checkText(t, o, b, a, other, n)
					if clashes != n || n == 0 && want != other {
						t.Fatalf("%q, %q, %q: %q, %d; with the sides changed %q, %d", o, a, b, want, clashes, other, n)
					}
				}
			}
		}
	}
}

// P9.3: what each side changed alone is taken, wherever it is, if there is a line between.
func TestTaken(t *testing.T) {
	o := letters("abcdefghijkl")
	for i := range o {
		for k := range o {
			if i-k < 2 && k-i < 2 {
				continue
			}
			for _, mine := range [][]string{nil, {"x\n"}, {"x\n", "y\n"}} {
				for _, theirs := range [][]string{nil, {"u\n"}, {"u\n", "v\n"}} {
					a, b := slices.Replace(slices.Clone(o), i, i+1, mine...), slices.Replace(slices.Clone(o), k, k+1, theirs...)
					var want []string
					for at, line := range o {
						switch at {
						case i:
							want = append(want, mine...)
						case k:
							want = append(want, theirs...)
						default:
							want = append(want, line)
						}
					}
					check(t, o, a, b, want, 0)
					checkText(t, strings.Join(o, ""), strings.Join(a, ""), strings.Join(b, ""), strings.Join(want, ""), 0)
				}
			}
		}
	}
}

// numbers are lines that are unlike each other.
func numbers(many int) []string {
	var out []string
	for i := range many {
		out = append(out, strconv.Itoa(i)+"\n")
	}
	return out
}

// P9.1, P9.2: long lists, and texts; many clashes.
func TestMany(t *testing.T) {
	o := numbers(1 << 17)
	a := slices.Concat(o[:70000], []string{"x\n"}, o[70001:])
	b := slices.Concat(o[:70002], []string{"y\n"}, o[70003:], []string{"z"})
	whole, ours, theirs := strings.Join(o, ""), strings.Join(a, ""), strings.Join(b, "")
	check(t, o, a, o, a, 0)
	check(t, o, o, b, b, 0)
	checkText(t, whole, ours, whole, ours, 0)
	checkText(t, whole, ours, theirs+"\x00", ours, 1)
	want, clashes := told(o, a, b)
	check(t, o, a, b, want, clashes)
	checkText(t, whole, ours, theirs, strings.Join(want, ""), clashes)
	o = numbers(255)
	a, b = slices.Clone(o), slices.Clone(o)
	want = nil
	for i, line := range o {
		if i%2 > 0 {
			want = append(want, line)
			continue
		}
		a[i], b[i] = "a\n", "b"
		want = append(want, merge.Ours, "a\n", merge.Base, line, merge.Middle, "b\n", merge.Theirs)
	}
	check(t, o, a, b, want, 128)
	long := strings.Repeat("x", 1<<20)
	checkText(t, "o", long, long+"y", merge.Ours+long+"\n"+merge.Base+"o\n"+merge.Middle+long+"y\n"+merge.Theirs, 1)
	checkText(t, "\x00", long+"b", long+"a", long+"b", 1)
	checkText(t, "\x00", long, long+"a", long+"a", 1)
}

// R4: no list and an empty one are the same.
func TestNil(t *testing.T) {
	for _, none := range [][]string{nil, {}} {
		check(t, none, none, none, nil, 0)
		check(t, none, []string{}, nil, none, 0)
		check(t, none, letters("a"), none, letters("a"), 0)
		check(t, none, none, letters("A"), letters("A"), 0)
		check(t, letters("a"), none, []string{}, nil, 0)
		check(t, letters("a"), none, letters("b"), marked("<|a=b>"), 1)
		check(t, none, letters("a"), letters("b"), marked("<a|=b>"), 1)
	}
}

// R5: what is handed in is not changed, nor is what stands behind it.
func TestHandedIn(t *testing.T) {
	whole, kept := letters("abCxb.daYbcd"), letters("abCxb.daYbcd")
	for from := range whole {
		for to := range whole[from:] {
			merge.Lines(whole[from:from+to], whole[:to], whole[from:])
			merge.Lines(whole[:to], whole[from:from+to], whole[to:])
			merge.Lines(whole[:to], whole[:from], whole[:from])
		}
	}
	if !slices.Equal(whole, kept) {
		t.Errorf("what was handed in was changed: %q", whole)
	}
}

// R5: what is answered is memory of its own: who changes it, or the lists that were handed in, changes nothing else.
func TestOwnMemory(t *testing.T) {
	for _, x := range []struct{ o, a, b, want string }{
		{"abc", "abc", "abc", "abc"}, {"abc", "axc", "abc", "axc"}, {"abc", "abc", "axc", "axc"}, {"a", "x", "a", "x"}, {"a", "a", "x", "x"}, {"a", "x", "x", "x"}, {"abc", "axc", "ayc", "a<x|b=y>c"}, {"a", "x", "y", "<x|a=y>"},
	} {
		o, a, b, want := letters(x.o), letters(x.a), letters(x.b), marked(x.want)
		first, _ := merge.Lines(o, a, b)
		second, _ := merge.Lines(o, a, b)
		for i := range second {
			second[i] = "spoilt"
		}
		for _, line := range append(second, "more")[:len(want)] {
			if line != "spoilt" {
				t.Errorf("%q: a change was lost", x.want)
			}
		}
		if !slices.Equal(o, letters(x.o)) || !slices.Equal(a, letters(x.a)) || !slices.Equal(b, letters(x.b)) {
			t.Errorf("%q: what was handed in was changed: %q, %q, %q", x.want, o, a, b)
		}
		third, _ := merge.Lines(o, a, b)
		for _, l := range [][]string{o, a, b} {
			for i := range l {
				l[i] = "spoilt"
			}
			_ = append(l[:0], "more")
		}
		if !slices.Equal(first, want) || !slices.Equal(third, want) {
			t.Errorf("what was answered was changed: %q, %q", first, third)
		}
	}
}

// R6: asked again, whatever was asked between, the same is told.
func TestAgain(t *testing.T) {
	for range 3 {
		check(t, letters("abc"), letters("axc"), letters("ayc"), marked("a<x|b=y>c"), 1)
		check(t, letters("abc"), letters("axc"), letters("abc"), letters("axc"), 0)
		checkText(t, "1", "2", "3", "<<<<<<<\n2\n|||||||\n1\n=======\n3\n>>>>>>>\n", 1)
		checkText(t, "\x00", "2", "3", "3", 1)
		checkText(t, "", "", "", "", 0)
	}
}
