package lines_test

import (
	"slices"
	"strings"
	"testing"

	"grapevine/lines"
)

// known are texts with their lines, written out.
var known = []struct {
	s string
	l []string
}{
	{"", nil},
	{"a", []string{"a"}},
	{"\n", []string{"\n"}},
	{"a\n", []string{"a\n"}},
	{"a\nb", []string{"a\n", "b"}},
	{"a\nb\n", []string{"a\n", "b\n"}},
	{"\n\n", []string{"\n", "\n"}},
	{"\n\n\n", []string{"\n", "\n", "\n"}},
	{"\na", []string{"\n", "a"}},
	{"a\n\nb\n", []string{"a\n", "\n", "b\n"}},
	{"a\n\n", []string{"a\n", "\n"}},
	{"same\nsame\nsame\n", []string{"same\n", "same\n", "same\n"}},
	{" \n\t\n ", []string{" \n", "\t\n", " "}},
	// Other bytes, and signs of more bytes, that elsewhere end a line.
	{"a\r\nb\r", []string{"a\r\n", "b\r"}},
	{"a\rb\vc\fd\n", []string{"a\rb\vc\fd\n"}},
	{"a\u0085b\u2028c\u2029d", []string{"a\u0085b\u2028c\u2029d"}},
	{"\x1e\x1d\x1c\n\x8a", []string{"\x1e\x1d\x1c\n", "\x8a"}},
	// Bytes that are no text.
	{"\x00\n\x00", []string{"\x00\n", "\x00"}},
	{"\xff\n\xc3\n\xc3(\n\xf0\x9f", []string{"\xff\n", "\xc3\n", "\xc3(\n", "\xf0\x9f"}},
}

// told is what the document tells of a text, byte by byte.
type told struct {
	l              []string
	closed, binary bool
}

func tell(s string) told {
	out := told{closed: true}
	line := []byte(nil)
	for _, x := range []byte(s) {
		line = append(line, x)
		out.closed = x == 10
		out.binary = out.binary || x == 0
		if x == 10 {
			out.l = append(out.l, string(line))
			line = nil
		}
	}
	if len(line) > 0 {
		out.l = append(out.l, string(line))
	}
	return out
}

// right is what the document tells of lines.
func right(l []string) bool {
	for i, line := range l {
		tens := strings.Count(line, "\n")
		closed := tens == 1 && strings.HasSuffix(line, "\n")
		open := tens == 0 && line != "" && i == len(l)-1
		if !closed && !open {
			return false
		}
	}
	return true
}

// texts are all of up to so many bytes out of some.
func texts(many int, of ...byte) []string {
	out, last := []string{""}, []string{""}
	for range many {
		var next []string
		for _, s := range last {
			for _, x := range of {
				next = append(next, s+string([]byte{x}))
			}
		}
		out, last = append(out, next...), next
	}
	return out
}

// lists are all of up to so many lines out of some.
func lists(many int, of []string) [][]string {
	out, last := [][]string{nil}, [][]string{nil}
	for range many {
		var next [][]string
		for _, l := range last {
			for _, line := range of {
				next = append(next, append(slices.Clone(l), line))
			}
		}
		out, last = append(out, next...), next
	}
	return out
}

// check holds all that is told of a text against what is wanted.
func check(t *testing.T, s string, want told) {
	t.Helper()
	if got := lines.Split(s); !slices.Equal(got, want.l) {
		t.Errorf("%.99q: lines %.99q, not %.99q", s, got, want.l)
	}
	if got := lines.Count(s); got != len(want.l) {
		t.Errorf("%.99q: %d lines, not %d", s, got, len(want.l))
	}
	if got := lines.Closed(s); got != want.closed {
		t.Errorf("%.99q: closed: %v", s, got)
	}
	if got := lines.Binary(s); got != want.binary {
		t.Errorf("%.99q: binary: %v", s, got)
	}
	if got := lines.Join(want.l); got != s {
		t.Errorf("%.99q: joined %.99q", want.l, got)
	}
	if !lines.Right(want.l) {
		t.Errorf("%.99q: not right", want.l)
	}
}

// P3.1: texts whose lines are written out.
func TestKnown(t *testing.T) {
	for _, x := range known {
		want := tell(x.s)
		want.l = x.l
		check(t, x.s, want)
	}
}

// P3.1 to P3.3: all short texts of bytes that matter, and each byte among others.
func TestTexts(t *testing.T) {
	for _, s := range texts(7, 0, 10, 13, 'a') {
		check(t, s, tell(s))
	}
	for x := range 256 {
		one := string([]byte{byte(x)})
		for _, s := range []string{one, one + one, one + "\n", "\n" + one, "a" + one, one + "a", "a\n" + one + "b\n", "a" + one + "\n"} {
			check(t, s, tell(s))
		}
	}
}

// P3.1 to P3.3: long lines, and many.
func TestLong(t *testing.T) {
	long := strings.Repeat("x", 1<<20)
	for _, s := range []string{
		long, long + "\n", "\n" + long, long + "\n" + long, long + "\x00",
		strings.Repeat("\n", 1<<20), strings.Repeat("ab\n", 1<<18) + "c", strings.Repeat("ab\n", 1<<18),
	} {
		check(t, s, tell(s))
	}
}

// P3.1: what is joined needn't be right: it is all of it, one behind the other.
func TestJoinAny(t *testing.T) {
	for _, x := range []struct {
		l    []string
		want string
	}{
		{nil, ""}, {[]string{}, ""}, {[]string{""}, ""}, {[]string{"", ""}, ""},
		{[]string{"a", "b"}, "ab"}, {[]string{"b", "a"}, "ba"}, {[]string{"", "a", ""}, "a"},
		{[]string{"a\nb", "c\n", "", "\n\n"}, "a\nbc\n\n\n"}, {[]string{"\x00", "\xff"}, "\x00\xff"},
	} {
		if got := lines.Join(x.l); got != x.want {
			t.Errorf("%q: joined %q, not %q", x.l, got, x.want)
		}
	}
}

// P3.2: lists that are a text's, and lists that are none's, written out.
func TestRightKnown(t *testing.T) {
	for _, x := range []struct {
		l    []string
		want bool
	}{
		{nil, true}, {[]string{}, true},
		{[]string{"a"}, true}, {[]string{"\n"}, true}, {[]string{"a\n"}, true}, {[]string{"\x00"}, true},
		{[]string{"a\n", "b"}, true}, {[]string{"\n", "\n"}, true}, {[]string{"\n", "b\n", "\r"}, true},
		{[]string{""}, false}, {[]string{"", ""}, false},
		{[]string{"a", ""}, false}, {[]string{"a\n", ""}, false}, {[]string{"", "a"}, false}, {[]string{"", "a\n"}, false},
		{[]string{"a\n", "", "b\n"}, false},
		{[]string{"a", "b"}, false}, {[]string{"a", "b\n"}, false}, {[]string{"a\n", "b", "c\n"}, false}, {[]string{"a\n", "b\r", "c\n"}, false},
		{[]string{"a\nb"}, false}, {[]string{"a\nb\n"}, false}, {[]string{"\na"}, false}, {[]string{"\n\n"}, false}, {[]string{"a\n\n"}, false},
		{[]string{"a\nb", "c"}, false}, {[]string{"a\n", "b\nc"}, false}, {[]string{"a\n", "\n\n"}, false}, {[]string{"\n\n", "a"}, false}, {[]string{"a\nb\n", "c"}, false},
	} {
		if got := lines.Right(x.l); got != x.want {
			t.Errorf("%q: right: %v", x.l, got)
		}
	}
}

// P3.2, P3.3: all short lists of such lines as may be, and may not be: those that are right, and no others, are the lines of what they are joined to.
func TestLists(t *testing.T) {
	for _, l := range lists(4, []string{"", "a", "b", "\n", "a\n", "\na", "\n\n", "a\nb", "a\nb\n", "\x00\r"}) {
		want := right(l)
		if got := lines.Right(l); got != want {
			t.Errorf("%q: right: %v", l, got)
		}
		if got := lines.Split(lines.Join(l)); slices.Equal(got, l) != want {
			t.Errorf("%q: joined, and split: %q", l, got)
		}
	}
}

// P3.2: a byte 0 wherever it stands, and an end that isn't there any more.
func TestEnds(t *testing.T) {
	for _, x := range []struct {
		s              string
		closed, binary bool
	}{
		{"", true, false}, {"\n", true, false}, {"a", false, false}, {"a\n", true, false}, {"\na", false, false},
		{"\x00", false, true}, {"\x00\n", true, true}, {"\n\x00", false, true}, {"a\x00b", false, true}, {"a\nb\nc\x00\n", true, true},
		{"0", false, false}, {"\\0\\n", false, false}, {"\r", false, false}, {"\n\r", false, false}, {"\x01\xff\x80\n", true, false}, {"\u0100\u0a0a", false, false},
	} {
		if got := lines.Closed(x.s); got != x.closed {
			t.Errorf("%q: closed: %v", x.s, got)
		}
		if got := lines.Binary(x.s); got != x.binary {
			t.Errorf("%q: binary: %v", x.s, got)
		}
	}
}

// R5: what is handed in stays as it is, and lists that were answered share nothing.
func TestOwnMemory(t *testing.T) {
	s, want := "a\nb\nc", []string{"a\n", "b\n", "c"}
	one, two := lines.Split(s), lines.Split(s)
	for i := range one {
		one[i] = "spoilt"
	}
	one = append(one[:1], "more", "and more")
	if !slices.Equal(two, want) || !slices.Equal(lines.Split(s), want) || len(one) != 3 {
		t.Errorf("another list was changed: %q, then %q", two, lines.Split(s))
	}
	room := append(make([]string, 0, 9), "a\n", "b", "c", "kept")
	l := room[:3]
	joined := lines.Join(l)
	lines.Right(l)
	if !slices.Equal(room, []string{"a\n", "b", "c", "kept"}) {
		t.Errorf("what was handed in was changed: %q", room)
	}
	l[0] = "spoilt"
	if joined != "a\nbc" {
		t.Errorf("a text was changed with its lines: %q", joined)
	}
}

// R4, R6: asked again, whatever was asked between, the same is told; a list of none is one, nil or not.
func TestAgain(t *testing.T) {
	for range 3 {
		for _, x := range known {
			check(t, x.s, tell(x.s))
		}
		if lines.Join([]string{}) != lines.Join(nil) || lines.Right([]string{}) != lines.Right(nil) || len(lines.Split("")) != 0 {
			t.Error("a list of none, and nil, are told apart")
		}
	}
}
