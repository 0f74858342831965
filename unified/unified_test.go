package unified_test

import (
	"fmt"
	"math"
	"regexp"
	"slices"
	"strconv"
	"strings"
	"testing"

	"grapevine/api"
	"grapevine/diff"
	"grapevine/hunk"
	"grapevine/lines"
	"grapevine/unified"
)

// cut is the line behind one that has no end.
const cut = "\\ No newline at end of file\n"

// one is a hunk with its lines in one text, a bar between any two, and ! for a line's end.
func one(a, an, b, bn int, rows string) api.Hunk {
	h := api.Hunk{A: a, An: an, B: b, Bn: bn}
	if rows != "" {
		h.Lines = strings.Split(strings.ReplaceAll(rows, "!", "\n"), "|")
	}
	return h
}

// list is hunks as one.
func list(l ...api.Hunk) []api.Hunk { return l }

// same tells whether hunks are, one by one; a list of no lines is one, nil or not.
func same(k, l []api.Hunk) bool {
	return slices.EqualFunc(k, l, func(g, h api.Hunk) bool {
		return g.A == h.A && g.An == h.An && g.B == h.B && g.Bn == h.Bn && slices.Equal(g.Lines, h.Lines)
	})
}

// copied are hunks with memory of their own.
func copied(l []api.Hunk) []api.Hunk {
	out := slices.Clone(l)
	for i := range out {
		out[i].Lines = slices.Clone(out[i].Lines)
	}
	return out
}

// words are all of up to so many letters out of some.
func words(many int, of string) []string {
	out, last := []string{""}, []string{""}
	for range many {
		var next []string
		for _, s := range last {
			for i := range len(of) {
				next = append(next, s+of[i:i+1])
			}
		}
		out, last = append(out, next...), next
	}
	return out
}

// printed is what the document tells of hunks: the text, or none.
func printed(l []api.Hunk) string {
	s := ""
	for _, h := range l {
		x, y := h.A+1, h.B+1
		if h.An == 0 {
			x = h.A
		}
		if h.Bn == 0 {
			y = h.B
		}
		if !hunk.Right(h) || slices.Max([]int{h.A, h.An, h.B, h.Bn}) > 2147483647 || max(x, y) > 2147483647 {
			return ""
		}
		s += fmt.Sprintf("@@ -%d,%d +%d,%d @@\n", x, h.An, y, h.Bn)
		for _, line := range h.Lines {
			content, closed := strings.CutSuffix(line[1:], "\n")
			if strings.Contains(content, "\n") {
				return ""
			}
			s += line[:1] + content + "\n"
			if !closed {
				s += cut
			}
		}
	}
	return s
}

// form is a head's one.
var form = regexp.MustCompile(`^@@ -(0|[1-9][0-9]*),(0|[1-9][0-9]*) \+(0|[1-9][0-9]*),(0|[1-9][0-9]*) @@\n$`)

// headed is the hunk of a head.
func headed(line string) (api.Hunk, bool) {
	m := form.FindStringSubmatch(line)
	if m == nil {
		return api.Hunk{}, false
	}
	var n [4]int
	for i := range n {
		if len(m[i+1]) > 10 {
			return api.Hunk{}, false
		}
		n[i], _ = strconv.Atoi(m[i+1])
	}
	if slices.Max(n[:]) > 2147483647 || n[0] == 0 && n[1] != 0 || n[2] == 0 && n[3] != 0 {
		return api.Hunk{}, false
	}
	h := api.Hunk{A: n[0], An: n[1], B: n[2], Bn: n[3]}
	if h.An > 0 {
		h.A--
	}
	if h.Bn > 0 {
		h.B--
	}
	return h, true
}

// parsed is what the document tells of a text, hunk by hunk, each line with the one behind it that takes its end.
func parsed(s string) ([]api.Hunk, int, api.Errno) {
	l := strings.SplitAfter(s, "\n")
	if l[len(l)-1] == "" {
		l = l[:len(l)-1]
	}
	var out []api.Hunk
	for at := 0; at < len(l); {
		h, ok := headed(l[at])
		if !ok {
			return nil, at + 1, api.ErrForm
		}
		at++
		signs := ""
		for len(signs)-strings.Count(signs, "+") != h.An || len(signs)-strings.Count(signs, "-") != h.Bn {
			if at == len(l) {
				return nil, len(l) + 1, api.ErrShort
			}
			signs += l[at][:1]
			if strings.Trim(signs, " -+") != "" || strings.Contains(signs, "+-") || !strings.HasSuffix(l[at], "\n") ||
				len(signs)-strings.Count(signs, "+") > h.An || len(signs)-strings.Count(signs, "-") > h.Bn {
				return nil, at + 1, api.ErrForm
			}
			line := l[at]
			at++
			if at < len(l) && l[at] == cut {
				line = line[:len(line)-1]
				at++
			}
			h.Lines = append(h.Lines, line)
		}
		out = append(out, h)
	}
	return out, 0, api.OK
}

// held holds a text against what the document tells of it: where it is parsed, it is printed again.
func held(t *testing.T, s string) {
	t.Helper()
	got, line, fail := unified.Parse(s)
	want, n, e := parsed(s)
	if !same(got, want) || line != n || fail != e {
		t.Fatalf("%.999q: %v, %d, %v, not %v, %d, %v", s, got, line, fail, want, n, e)
	}
	if fail != api.OK {
		return
	}
	if again := unified.Print(got); again != s {
		t.Fatalf("%.999q: printed again: %.999q", s, again)
	}
}

// told holds hunks against their text; where they can be told, they are parsed again.
func told(t *testing.T, l []api.Hunk, want string) {
	t.Helper()
	got := unified.Print(l)
	if got != want {
		t.Fatalf("%.99v: %.999q, not %.999q", l, got, want)
	}
	if got == "" {
		return
	}
	if again, line, fail := unified.Parse(got); !same(again, l) || line != 0 || fail != api.OK {
		t.Fatalf("%.999q: %.99v, %d, %v, not %.99v", got, again, line, fail, l)
	}
}

// P6.1, P6.4: hunks with their texts, written out.
func TestPrint(t *testing.T) {
	for _, x := range []struct {
		l    []api.Hunk
		want string
	}{
		{nil, ""},
		{list(one(0, 1, 0, 1, "-a!|+b")), "@@ -1,1 +1,1 @@\n-a\n+b\n" + cut},
		{list(one(0, 1, 0, 1, "-a|+b!")), "@@ -1,1 +1,1 @@\n-a\n" + cut + "+b\n"},
		{list(one(0, 1, 0, 1, "-a|+b")), "@@ -1,1 +1,1 @@\n-a\n" + cut + "+b\n" + cut},
		{list(one(2, 4, 3, 4, " a!|-b!|+c!| d!| e!")), "@@ -3,4 +4,4 @@\n a\n-b\n+c\n d\n e\n"},
		// An empty side is told by the line ahead of it.
		{list(one(0, 0, 0, 1, "+a!")), "@@ -0,0 +1,1 @@\n+a\n"},
		{list(one(0, 1, 0, 0, "-a!")), "@@ -1,1 +0,0 @@\n-a\n"},
		{list(one(5, 0, 7, 2, "+a!|+b!")), "@@ -5,0 +8,2 @@\n+a\n+b\n"},
		{list(one(5, 2, 7, 0, "-a!|-b!")), "@@ -6,2 +7,0 @@\n-a\n-b\n"},
		{list(api.Hunk{}), "@@ -0,0 +0,0 @@\n"},
		{list(one(3, 0, 8, 0, ""), one(1, 0, 0, 0, "")), "@@ -3,0 +8,0 @@\n@@ -1,0 +0,0 @@\n"},
		// Lines without a byte behind the sign, and such as look like others.
		{list(one(0, 3, 0, 2, " !|-!|-|+")), "@@ -1,3 +1,2 @@\n \n-\n-\n" + cut + "+\n" + cut},
		{list(one(0, 2, 0, 2, " "+cut[:len(cut)-1]+"|-@@ -1,1 +1,1 @@!|+"+cut)), "@@ -1,2 +1,2 @@\n " + cut + cut + "-@@ -1,1 +1,1 @@\n+" + cut},
		{list(one(0, 3, 0, 3, " \r!|--\r|++!|  \x00\xff")), "@@ -1,3 +1,3 @@\n \r\n--\r\n" + cut + "++\n  \x00\xff\n" + cut},
		// Hunks one behind the other needn't be in order.
		{list(one(9, 1, 0, 1, " a"), one(0, 1, 20, 1, "-b|+c!"), one(9, 1, 0, 1, " a")), "@@ -10,1 +1,1 @@\n a\n" + cut + "@@ -1,1 +21,1 @@\n-b\n" + cut + "+c\n@@ -10,1 +1,1 @@\n a\n" + cut},
		// The greatest numbers.
		{list(one(1<<31-1, 0, 1<<31-1, 0, "")), "@@ -2147483647,0 +2147483647,0 @@\n"},
		{list(one(1<<31-2, 1, 1<<31-2, 1, " a!")), "@@ -2147483647,1 +2147483647,1 @@\n a\n"},
	} {
		told(t, x.l, x.want)
	}
}

// P6.1, R1: hunks that can't be told: not right, too great, or with a line of several; one of them is enough, wherever it is.
func TestPrintNone(t *testing.T) {
	right := one(0, 1, 0, 1, " a!")
	for _, h := range []api.Hunk{
		one(-1, 0, 0, 0, ""), one(0, 0, -1, 0, ""), one(math.MinInt, 1, 0, 1, " a!"), one(0, 1, math.MinInt, 1, " a!"),
		one(0, 1, 0, 0, ""), one(0, 0, 0, 1, ""), one(0, -1, 0, 0, ""), one(0, 0, 0, math.MaxInt, ""), one(0, 2, 0, 1, " a!"), one(0, 1, 0, 0, " a!"),
		one(0, 1, 0, 1, "+a!|-b!"), one(0, 1, 0, 1, "xa!"), one(0, 1, 0, 1, "!"), one(0, 0, 0, 0, cut), {Lines: []string{""}}, {An: 1, Bn: 1, Lines: []string{""}}, {An: 1, Bn: 1, Lines: []string{" a\n", ""}},
		one(1<<31, 0, 0, 0, ""), one(0, 0, 1<<31, 0, ""), one(1<<31-1, 1, 0, 1, " a!"), one(0, 1, 1<<31-1, 1, " a!"), one(1<<31-1, 1, 0, 0, "-a!"), one(0, 0, 1<<31-1, 1, "+a!"),
		one(math.MaxInt, 0, 0, 0, ""), one(0, 0, math.MaxInt, 0, ""), one(math.MaxInt, 1, 0, 1, " a!"), one(0, 1, math.MaxInt, 1, " a!"), one(1<<32, 1, 0, 1, " a!"), one(0, 1, 1<<63-2, 1, " a!"),
		one(0, 1, 0, 1, " a!b"), one(0, 1, 0, 1, " a!b!"), one(0, 1, 0, 1, " !!"), one(0, 1, 0, 1, " !a"), one(0, 1, 0, 0, "-a!b!"), one(0, 0, 0, 1, "+!!"), one(0, 2, 0, 2, " a!| b!c"), one(0, 2, 0, 2, " b!c| a!"),
	} {
		for _, l := range [][]api.Hunk{{h}, {right, h}, {h, right}, {right, h, right}} {
			told(t, l, "")
		}
	}
	told(t, list(right, right), "@@ -1,1 +1,1 @@\n a\n@@ -1,1 +1,1 @@\n a\n")
}

// P6.1, P6.4: all short rows of signs, lines closed and open, at several places: told, where they can be, and parsed again.
func TestPrintAll(t *testing.T) {
	for _, word := range words(5, " -+") {
		for ends := range 1 << len(word) {
			var h api.Hunk
			for i := range len(word) {
				line := word[i:i+1] + strings.Repeat("x", i%3)
				if ends>>i&1 == 0 {
					line += "\n"
				}
				h.Lines = append(h.Lines, line)
			}
			h.An, h.Bn = len(word)-strings.Count(word, "+"), len(word)-strings.Count(word, "-")
			for _, at := range [][2]int{{0, 0}, {0, 7}, {12, 3}, {1<<31 - 2, 1<<31 - 1}, {1<<31 - 1, 0}, {-1, 0}} {
				h.A, h.B = at[0], at[1]
				told(t, list(h), printed(list(h)))
				told(t, list(h, one(1, 1, 1, 0, "-y"), h), printed(list(h, one(1, 1, 1, 0, "-y"), h)))
			}
		}
	}
}

// P6.2, P6.3: texts that are hunks', written out.
func TestParse(t *testing.T) {
	for _, x := range []struct {
		s    string
		want []api.Hunk
	}{
		{"", nil},
		{"@@ -1,1 +1,1 @@\n-a\n+b\n" + cut, list(one(0, 1, 0, 1, "-a!|+b"))},
		{"@@ -1,3 +1,3 @@\n a\n" + cut + "-b\n" + cut + "-c\n+d\n" + cut + "+\n" + cut, list(one(0, 3, 0, 3, " a|-b|-c!|+d|+"))},
		{"@@ -0,0 +0,0 @@\n@@ -9,0 +8,0 @@\n", list(api.Hunk{}, one(9, 0, 8, 0, ""))},
		{"@@ -4,0 +5,1 @@\n+\n@@ -10,2 +11,1 @@\n-x\n y\n", list(one(4, 0, 4, 1, "+!"), one(9, 2, 10, 1, "-x!| y!"))},
		{"@@ -2147483647,0 +2147483647,1 @@\n+a\n", list(one(1<<31-1, 0, 1<<31-2, 1, "+a!"))},
		{"@@ -1,2 +1,0 @@\n-\\\n-@@ -1,1 +1,1 @@\n", list(one(0, 2, 1, 0, "-\\!|-@@ -1,1 +1,1 @@!"))},
		{"@@ -1,2 +1,2 @@\n+a\n  \n-b\n", list(one(0, 2, 0, 2, "+a!|  !|-b!"))},
	} {
		held(t, x.s)
		if got, line, fail := unified.Parse(x.s); !same(got, x.want) || line != 0 || fail != api.OK {
			t.Errorf("%q: %v, %d, %v, not %v", x.s, got, line, fail, x.want)
		}
	}
}

// P6.2, P6.3, R3: texts that are no hunks', with the line that can't stand where it stands, written out.
func TestParseWrong(t *testing.T) {
	const head, hole = "@@ -1,1 +1,1 @@\n", "@@ -0,0 +0,0 @@\n"
	for _, x := range []struct {
		s    string
		line int
		want api.Errno
	}{
		// Where a hunk must begin.
		{"x", 1, api.ErrForm}, {"\n", 1, api.ErrForm}, {" a\n", 1, api.ErrForm}, {cut, 1, api.ErrForm}, {hole + "\n", 2, api.ErrForm}, {hole + " a\n", 2, api.ErrForm}, {head + " a\nx\n" + head, 3, api.ErrForm},
		{"\n" + head + " a\n", 1, api.ErrForm}, {head + " a\n\n", 3, api.ErrForm}, {"--- a\n+++ b\n" + head + " a\n", 1, api.ErrForm},
		{"@@ -1,1 +1,1 @@", 1, api.ErrForm}, {hole + "@@ -0,0 +0,0 @@", 2, api.ErrForm}, {head + " a\n@@ -1,1 +1,1 @@", 3, api.ErrForm},
		// Where a hunk's lines must stand.
		{head + "\n", 2, api.ErrForm}, {head + "xa\n", 2, api.ErrForm}, {head + "\ta\n", 2, api.ErrForm}, {head + head, 2, api.ErrForm}, {head + "\\ a\n", 2, api.ErrForm},
		{head + " a", 2, api.ErrForm}, {head + "-a\n+b", 3, api.ErrForm}, {head + "-", 2, api.ErrForm}, {head + "x", 2, api.ErrForm},
		{head + "+a\n-b\n", 3, api.ErrForm}, {"@@ -1,2 +1,2 @@\n-a\n+b\n-c\n+d\n", 4, api.ErrForm}, {head + "+a\n" + cut + "-b\n", 4, api.ErrForm},
		{head + "-a\n-b\n", 3, api.ErrForm}, {head + "-a\n b\n", 3, api.ErrForm}, {head + "+a\n+b\n", 3, api.ErrForm}, {head + "+a\n b\n", 3, api.ErrForm}, {head + " a\n a\n", 3, api.ErrForm},
		{"@@ -1,1 +1,0 @@\n a\n", 2, api.ErrForm}, {"@@ -1,0 +1,1 @@\n a\n", 2, api.ErrForm}, {"@@ -1,1 +1,0 @@\n+a\n", 2, api.ErrForm}, {"@@ -1,0 +1,1 @@\n-a\n", 2, api.ErrForm},
		// The first one that can't stand is told, whatever is behind it.
		{head + "xa\n" + "x", 2, api.ErrForm}, {head + " a\n" + "@@\n@@\n", 3, api.ErrForm}, {"x\n" + head, 1, api.ErrForm},
		// The line that takes an end: behind no head, not twice, not elsewhere, and not otherwise.
		{head + cut, 2, api.ErrForm}, {hole + cut, 2, api.ErrForm}, {head + " a\n" + cut + cut, 4, api.ErrForm}, {"@@ -1,2 +1,2 @@\n a\n" + cut + cut + " b\n", 4, api.ErrForm},
		{head + " a\n" + hole + cut, 4, api.ErrForm}, {head + " a\n" + head + cut, 4, api.ErrForm}, {head + " a\n" + cut + hole + cut, 5, api.ErrForm},
		{head + " a\n" + cut[:len(cut)-1], 3, api.ErrForm}, {head + "-a\n" + cut[:len(cut)-1], 3, api.ErrForm}, {head + " a\n" + cut[:len(cut)-1] + "\r\n", 3, api.ErrForm}, {head + "-a\n\\ no newline at end of file\n+b\n", 3, api.ErrForm}, {head + "-a\n " + cut + "+b\n", 3, api.ErrForm},
		// The end comes ahead of what the head says.
		{head, 2, api.ErrShort}, {head + "-a\n", 3, api.ErrShort}, {head + "+a\n", 3, api.ErrShort}, {head + "+a\n" + cut, 4, api.ErrShort}, {head + " a\n" + cut + head, 5, api.ErrShort},
		{"@@ -1,2 +1,2 @@\n a\n-b\n", 4, api.ErrShort}, {"@@ -1,1 +1,0 @@\n", 2, api.ErrShort}, {"@@ -1,0 +1,1 @@\n", 2, api.ErrShort}, {"@@ -1,2147483647 +1,2147483647 @@\n a\n", 3, api.ErrShort},
	} {
		held(t, x.s)
		if l, line, fail := unified.Parse(x.s); len(l) != 0 || line != x.line || fail != x.want {
			t.Errorf("%q: %v, %d, %v, not %d, %v", x.s, l, line, fail, x.line, x.want)
		}
	}
}

// P6.2: lines that are no heads, alone and behind a hunk.
func TestHeadsWrong(t *testing.T) {
	for _, head := range []string{
		"@@ -0,1 +1,1 @@", "@@ -1,1 +0,1 @@", "@@ -0,1 +1,0 @@", "@@ -0,0 +0,1 @@", "@@ -0,2147483647 +1,0 @@",
		"@@ -2147483648,0 +0,0 @@", "@@ -0,0 +2147483648,0 @@", "@@ -1,2147483648 +0,0 @@", "@@ -0,0 +1,2147483648 @@", "@@ -2147483648,1 +1,1 @@",
		"@@ -4294967296,0 +0,0 @@", "@@ -4294967297,0 +0,0 @@", "@@ -18446744073709551616,0 +0,0 @@", "@@ -0,0 +0,18446744073709551616 @@", "@@ -" + strings.Repeat("9", 1<<20) + ",0 +0,0 @@", "@@ -" + strings.Repeat("0", 1<<20) + ",0 +0,0 @@",
		"@@ -01,1 +1,1 @@", "@@ -1,01 +1,1 @@", "@@ -1,1 +01,1 @@", "@@ -1,1 +1,01 @@", "@@ -00,0 +0,0 @@", "@@ -0,00 +0,0 @@",
		"@@ -+1,1 +1,1 @@", "@@ --1,1 +1,1 @@", "@@ -1,+1 +1,1 @@", "@@ -1,1 ++1,1 @@", "@@ -1,1 +-1,1 @@", "@@ -1,1 +1,-1 @@", "@@ --0,0 +0,0 @@", "@@ -0,0 +0,-0 @@",
		"@@ -,0 +0,0 @@", "@@ -0, +0,0 @@", "@@ -0,0 +,0 @@", "@@ -0,0 +0, @@", "@@ -, +, @@", "@@ - + @@", "@@ -", " @@", "@@", "@@ @@", "@@ - @@",
		"@@ -0 +0,0 @@", "@@ -0,0 +0 @@", "@@ -0,0 @@", "@@ +0,0 @@", "@@ +0,0 -0,0 @@", "@@ -0,0,0 +0,0 @@", "@@ -0,0 +0,0,0 @@", "@@ -0,0 +0,0 +0,0 @@", "@@ -0,0 -0,0 @@", "@@ -0,0+0,0 @@", "@@ -0,0  +0,0 @@", "@@ -0,0 + 0,0 @@", "@@ - 0,0 +0,0 @@", "@@ -0 ,0 +0,0 @@", "@@ -0, 0 +0,0 @@",
		"@@  -0,0 +0,0 @@", "@@-0,0 +0,0 @@", "@@ -0,0 +0,0  @@", "@@ -0,0 +0,0@@", " @@ -0,0 +0,0 @@", "@@ -0,0 +0,0 @@ ", "@@ -0,0 +0,0 @@ f()", "@@ -0,0 +0,0 @@\r", "\ufeff@@ -0,0 +0,0 @@", "@@@ -0,0 +0,0 @@@", "@ -0,0 +0,0 @",
		"@@ -1_0,0 +0,0 @@", "@@ -0x1,0 +0,0 @@", "@@ -1e1,0 +0,0 @@", "@@ -a,0 +0,0 @@", "@@ -1.0,0 +0,0 @@", "@@ -\u0661,0 +0,0 @@", "@@ -1\x00,0 +0,0 @@", "@@ -0b1,0 +0,0 @@", "@@ -0o1,0 +0,0 @@",
	} {
		for at, ahead := range []string{"", "@@ -0,0 +0,0 @@\n", "@@ -1,1 +1,1 @@\n-a\n+b\n", "@@ -1,1 +1,1 @@\n-a\n+b\n" + cut} {
			for _, end := range []string{"", "\n", "\n a\n", "\n@@ -0,0 +0,0 @@\n"} {
				want := []int{1, 2, 4, 5}[at]
				if l, line, fail := unified.Parse(ahead + head + end); len(l) != 0 || line != want || fail != api.ErrForm {
					t.Errorf("%.99q: %v, %d, %v, not %d", ahead+head+end, l, line, fail, want)
				}
			}
		}
	}
}

// P6.2, P6.4: heads of all small numbers, and of ones at the limit, with no lines, and with as many as fit.
func TestHeads(t *testing.T) {
	at := []int{0, 1, 2, 9, 10, 11, 99, 100, 1<<31 - 2, 1<<31 - 1, 1 << 31, 1<<31 + 1, 1 << 32}
	for _, x := range at {
		for _, y := range at {
			for an := range 4 {
				for bn := range 4 {
					head := fmt.Sprintf("@@ -%d,%d +%d,%d @@\n", x, an, y, bn)
					held(t, head)
					held(t, head+strings.Repeat("-a\n", an)+strings.Repeat("+b\n", bn))
				}
			}
		}
	}
}

// P6.2 to P6.4: all short texts of lines that matter, the last one with its end, and without.
func TestParseAll(t *testing.T) {
	rows := map[byte]string{
		'0': "@@ -0,0 +0,0 @@\n", 'd': "@@ -1,1 +3,0 @@\n", 'i': "@@ -3,0 +1,1 @@\n", '1': "@@ -1,1 +1,1 @@\n", '2': "@@ -2,2 +3,3 @@\n",
		' ': " a\n", '-': "-b\n", '+': "+\n", 'n': cut, 'x': "x\n",
	}
	for _, word := range words(5, "0di12 -+nx") {
		hold(t, rows, word)
	}
	// What is behind a head, farther.
	for _, word := range words(6, " -+n") {
		hold(t, rows, "2"+word)
		hold(t, rows, "1"+word)
	}
}

// hold holds the text of such rows against the document, whole, and without its last byte.
func hold(t *testing.T, rows map[byte]string, word string) {
	t.Helper()
	s := ""
	for i := range len(word) {
		s += rows[word[i]]
	}
	held(t, s)
	held(t, s[:max(len(s)-1, 0)])
}

// P6.2 to P6.4: a text with each byte gone, doubled, or another one, and cut off anywhere.
func TestSpoilt(t *testing.T) {
	s := "@@ -9,3 +10,3 @@\n a\n-b\n+\n c\n" + cut + "@@ -19,0 +20,1 @@\n+d\n@@ -3,0 +4,0 @@\n"
	held(t, s)
	for i := range len(s) {
		held(t, s[:i])
		held(t, s[i:])
		held(t, s[:i]+s[i+1:])
		for x := range 256 {
			held(t, s[:i]+string([]byte{byte(x)})+s[i:])
			held(t, s[:i]+string([]byte{byte(x)})+s[i+1:])
		}
	}
}

// P6.2: all bytes that a line may begin with: three of them are signs.
func TestSigns(t *testing.T) {
	for x := range 256 {
		for _, rest := range []string{"", "\n", "a", "a\n", "a\n" + cut} {
			for _, head := range []string{"@@ -1,1 +1,1 @@\n", "@@ -1,1 +1,0 @@\n", "@@ -1,0 +1,1 @@\n", "@@ -1,0 +1,0 @@\n"} {
				held(t, head+string([]byte{byte(x)})+rest)
			}
		}
	}
}

// P6.4: what is between two texts, as hunks, is printed and parsed.
func TestBetween(t *testing.T) {
	a := lines.Split(strings.Repeat("a\nb\nc\n\nd\n", 20) + "end")
	for i := range 60 {
		b := slices.Concat(a[:i], []string{"x\n", "y\n"}, a[i+i%4:80], a[80+i%3:])
		b = lines.Split(lines.Join(b) + strings.Repeat("\n", i%2))
		for _, around := range []int{0, 1, 3, 1000} {
			l, fail := hunk.Make(a, diff.Diff(a, b), around)
			if fail != api.OK || len(l) == 0 {
				t.Fatal(l, fail)
			}
			told(t, l, printed(l))
		}
	}
}

// P6.1 to P6.4: long lines, and many; many hunks.
func TestLong(t *testing.T) {
	long := strings.Repeat("x", 1<<20)
	told(t, list(one(0, 1, 0, 1, "-"+long+"|+"+long+"!")), "@@ -1,1 +1,1 @@\n-"+long+"\n"+cut+"+"+long+"\n")
	const many = 1 << 17
	s := "@@ -1,131072 +1,131072 @@\n" + strings.Repeat("-a\n", many) + strings.Repeat("+b\n"+cut, many)
	l, line, fail := unified.Parse(s)
	if len(l) != 1 || len(l[0].Lines) != 2*many || line != 0 || fail != api.OK || unified.Print(l) != s {
		t.Error(len(l), line, fail)
	}
	s = strings.Repeat("@@ -1,1 +1,1 @@\n a\n", many)
	l, line, fail = unified.Parse(s)
	if len(l) != many || line != 0 || fail != api.OK || unified.Print(l) != s {
		t.Error(len(l), line, fail)
	}
	if l, line, fail := unified.Parse(s + "x"); len(l) != 0 || line != 2*many+1 || fail != api.ErrForm {
		t.Error(len(l), line, fail)
	}
	if l, line, fail := unified.Parse(s + "@@ -1,1 +1,1 @@\n"); len(l) != 0 || line != 2*many+2 || fail != api.ErrShort {
		t.Error(len(l), line, fail)
	}
}

// R4: no list and an empty one are the same, within hunks too.
func TestNil(t *testing.T) {
	told(t, []api.Hunk{}, "")
	told(t, list(api.Hunk{A: 1, B: 2, Lines: []string{}}), "@@ -1,0 +2,0 @@\n")
	told(t, list(api.Hunk{A: 1, B: 2}), "@@ -1,0 +2,0 @@\n")
}

// R5: what is handed in is not changed, nor is what stands behind it; what is answered is memory of its own.
func TestMemory(t *testing.T) {
	l := append(make([]api.Hunk, 0, 9), one(0, 2, 0, 2, " a!|-b|+c"), one(7, 0, 7, 1, "+d!"))
	l[0].Lines = append(l[0].Lines, "behind it")[:3]
	kept := copied(l)
	s := unified.Print(l)
	if !same(l, kept) || l[0].Lines[:4][3] != "behind it" || l[:3][2].Lines != nil {
		t.Errorf("what was handed in was changed: %v", l)
	}
	got, _, _ := unified.Parse(s)
	again, _, _ := unified.Parse(s)
	for i := range got {
		for k := range got[i].Lines {
			got[i].Lines[k] = "spoilt"
		}
		_ = append(got[i].Lines, "more", "and more")
		if !same(got[i+1:], kept[i+1:]) {
			t.Errorf("hunk %d shares its lines", i)
		}
	}
	if !same(again, kept) || unified.Print(kept) != s {
		t.Errorf("what was answered is shared: %v", again)
	}
}

// R6: asked again, whatever was asked between, the same is told.
func TestAgain(t *testing.T) {
	for range 2 {
		for _, s := range []string{"@@ -1,1 +1,1 @@\n a\n" + cut, "@@ -1,2 +1,2 @@\n-a\n", cut, "", "@@ -1,1 +1,1 @@\n+a\n-b\n", "@@ -0,0 +0,0 @@\n"} {
			held(t, s)
			unified.Print(list(one(0, 1, 0, 1, "+a|-b")))
		}
	}
}
