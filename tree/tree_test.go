package tree_test

import (
	"bytes"
	"crypto/sha256"
	"maps"
	"slices"
	"strconv"
	"strings"
	"sync"
	"testing"

	"grapevine/api"
	"grapevine/tree"
)

// files are some, of a path and a text each.
func files(l ...string) []api.File {
	var out []api.File
	for i := 0; i+1 < len(l); i += 2 {
		out = append(out, api.File{Path: l[i], Text: l[i+1]})
	}
	return out
}

// at are files with these paths, and texts by how many stand ahead.
func at(paths ...string) []api.File {
	var out []api.File
	for i, p := range paths {
		out = append(out, api.File{Path: p, Text: strings.Repeat("t", i)})
	}
	return out
}

// many are so many files with rising paths, and one text.
func many(n int, text string) []api.File {
	var out []api.File
	for i := range n {
		out = append(out, api.File{Path: "f" + strconv.Itoa(10000+i), Text: text})
	}
	return out
}

// canBe tells whether a path can be, by what the document says of it.
func canBe(p string) bool {
	for _, wrong := range []string{"//", "/./", "/../"} {
		if strings.Contains("/"+p+"/", wrong) {
			return false
		}
	}
	for _, x := range []byte(p) {
		if x <= 31 || x == 127 {
			return false
		}
	}
	return len(p) >= 1 && len(p) <= 200
}

// less tells whether a text is below another one, byte by byte.
func less(a, b string) bool {
	for i := range min(len(a), len(b)) {
		if a[i] != b[i] {
			return a[i] < b[i]
		}
	}
	return len(a) < len(b)
}

// isRight tells whether a tree is right, by what the document says of it.
func isRight(t []api.File) bool {
	for i, f := range t {
		if !canBe(f.Path) || len(f.Text) > 65536 || i > 0 && !less(t[i-1].Path, f.Path) {
			return false
		}
	}
	return len(t) <= 1000
}

// number is a number's form.
func number(n int) string {
	if n < 128 {
		return string([]byte{byte(n)})
	}
	return string([]byte{byte(n%128 + 128)}) + number(n/128)
}

// formOf is a tree's form, by what the document says of it.
func formOf(t []api.File) string {
	var out strings.Builder
	out.WriteString(number(len(t)))
	for _, f := range t {
		out.WriteString(number(len(f.Path)) + f.Path + number(len(f.Text)) + f.Text)
	}
	return out.String()
}

// takeNumber is the number that stands first, up to some thousands of millions, and what is behind it.
func takeNumber(b string) (int, string, api.Errno) {
	for i := range len(b) {
		if b[i] < 128 {
			n := 0
			for k := i; k >= 0; k-- {
				n = n*128 + int(b[k]%128)
			}
			if number(n) != b[:i+1] {
				return 0, "", api.ErrForm
			}
			return n, b[i+1:], api.OK
		}
	}
	return 0, "", api.ErrShort
}

// takeText is the text that stands first, and what is behind it.
func takeText(b string, most int) (string, string, api.Errno) {
	n, b, e := takeNumber(b)
	if e != api.OK {
		return "", "", e
	}
	if n > most {
		return "", "", api.ErrLong
	}
	if n > len(b) {
		return "", "", api.ErrShort
	}
	return b[:n], b[n:], api.OK
}

// treeOf is the tree of a form, or the error, by what the document says of it.
func treeOf(b string) ([]api.File, api.Errno) {
	n, b, e := takeNumber(b)
	if e != api.OK {
		return nil, e
	}
	if n > 1000 {
		return nil, api.ErrLong
	}
	var out []api.File
	for range n {
		var f api.File
		if f.Path, b, e = takeText(b, 200); e != api.OK {
			return nil, e
		}
		if f.Text, b, e = takeText(b, 65536); e != api.OK {
			return nil, e
		}
		out = append(out, f)
	}
	if b != "" {
		return nil, api.ErrTail
	}
	if !isRight(out) {
		return nil, api.ErrForm
	}
	return out, api.OK
}

// nameOf is a text's digest, by another program.
func nameOf(b string) api.Id {
	sum := sha256.Sum256([]byte(b))
	return api.Id(sum[:])
}

// lists are all of up to so many out of some.
func lists[T any](most int, of []T) [][]T {
	out, last := [][]T{nil}, [][]T{nil}
	for range most {
		var next [][]T
		for _, l := range last {
			for _, x := range of {
				next = append(next, append(slices.Clone(l), x))
			}
		}
		out, last = append(out, next...), next
	}
	return out
}

// checkRight holds what is told of a tree, whether it is right, against what is wanted.
func checkRight(t *testing.T, l []api.File, want bool) {
	t.Helper()
	if tree.Right(l) != want {
		t.Fatalf("%.999q: right is %v", l, !want)
	}
}

// checkForm holds a tree's form and name against the document's words; and the form's tree, where it has one.
func checkForm(t *testing.T, l []api.File) {
	t.Helper()
	b, e := tree.Encode(l)
	id := tree.Name(l)
	if !isRight(l) {
		if b != nil || e != api.ErrArg || id != "" {
			t.Fatalf("%.999q: %.99q, %d, name %q", l, b, e, id)
		}
		return
	}
	if want := formOf(l); string(b) != want || e != api.OK || id != nameOf(want) {
		t.Fatalf("%.999q: %.99q, %d, name %x", l, b, e, id)
	}
	if back, e := tree.Decode(b); !slices.Equal(back, l) || e != api.OK {
		t.Fatalf("%.999q: read as %.999q, %d", l, back, e)
	}
}

// checkDecode holds the tree of bytes against what is wanted; and what is read against its form.
func checkDecode(t *testing.T, b string, want []api.File, fail api.Errno) {
	t.Helper()
	l, e := tree.Decode([]byte(b))
	if !slices.Equal(l, want) || e != fail || e != api.OK && l != nil {
		t.Fatalf("%.99q: %.999q, %d, not %.999q, %d", b, l, e, want, fail)
	}
	if e != api.OK {
		return
	}
	if back, e := tree.Encode(l); string(back) != b || e != api.OK {
		t.Fatalf("%.99q: told as %.99q, %d", b, back, e)
	}
}

// P10.1, P10.3: the limits are those that the document writes.
func TestLimits(t *testing.T) {
	if tree.MaxPath != 200 || tree.MaxText != 65536 || tree.MaxFiles != 1000 {
		t.Error(tree.MaxPath, tree.MaxText, tree.MaxFiles)
	}
}

// P10.1: paths that can be, and that can't, written out.
func TestPathKnown(t *testing.T) {
	for _, p := range []string{
		"a", "a/b", "a/b/c", "a.b", ".a", "a.", "..a", "a..", "...", "....", ".../...", "a/...", ".a/.b", "a/.b", "a/..b", "a/b.", "a/b..", " ", " / ", ". ", " .", ".. ", " ..", "a b", "~", "\\", "a\\b", "\\..\\", "C:", "*", "-", "~/a", "\x80", "\xff", "\xc3", "\xff/\xfe", "\u00e9", "\u00e9/\u00e8", "\u0085", "\u2028", "\ufeff", "\u2024", "\uff0f", "\uff0f\uff0f", "\u2215", "A", "NUL", "a/a", "\xc0\xaf", "\xc0\xae",
	} {
		if !tree.Path(p) {
			t.Errorf("%q can't be", p)
		}
	}
	for _, p := range []string{
		"", "/", "//", "/a", "a/", "//a", "a//", "a//b", "/a/", ".", "..", "./", "../", "/.", "/..", "./a", "../a", "a/.", "a/..", "a/./b", "a/../b", "././.", "../..", "a/b/", "a/b/.", "a/b/..", "a/b//c", "/..a", "\x00", "a\x00", "\x00a", "a\x00b", "a/\x00", "\n", "a\n", "\na", "a\tb", "a\r", "\x1f", "a\x1f", "\x7f", "a\x7f", "\x7fa", "a/\x7f/b", "\u00e9\n", "\xff\x00", "\xff/", "\xff/..",
	} {
		if tree.Path(p) {
			t.Errorf("%q can be", p)
		}
	}
}

// P10.1: each byte at each place.
func TestPathBytes(t *testing.T) {
	for _, good := range []string{"a", "abc", "ab/cd", "a.b/c.d", "\u00e9"} {
		for i := range good {
			for x := range 256 {
				b := []byte(good)
				b[i] = byte(x)
				if p := string(b); tree.Path(p) != canBe(p) {
					t.Errorf("%q: %v", p, !canBe(p))
				}
			}
		}
	}
	for x := range 256 {
		p := string([]byte{'a', byte(x), 'b'})
		if want := x >= 32 && x != 127; tree.Path(p) != want {
			t.Errorf("%q: %v", p, !want)
		}
	}
}

// P10.1: lengths, in bytes, around the limits.
func TestPathLengths(t *testing.T) {
	for n := range 700 {
		if want := n >= 1 && n <= 200; tree.Path(strings.Repeat("a", n)) != want {
			t.Errorf("%d bytes: %v", n, !want)
		}
		if want := n >= 1 && n <= 100; tree.Path(strings.Repeat("\u00e9", n)) != want {
			t.Errorf("%d runes of two bytes: %v", n, !want)
		}
		if want := n <= 99; tree.Path(strings.Repeat("a/", n)+"a") != want {
			t.Errorf("%d parts of a letter: %v", n+1, !want)
		}
		if tree.Path(strings.Repeat("/", n)) || tree.Path(strings.Repeat("a", n)+"/") || tree.Path("/"+strings.Repeat("a", n)) {
			t.Errorf("%d bytes: an empty part", n)
		}
		if want := n >= 3 && n <= 200; tree.Path(strings.Repeat(".", n)) != want {
			t.Errorf("%d dots: %v", n, !want)
		}
	}
	long := strings.Repeat("a", 1<<20)
	if tree.Path(long) || tree.Path(strings.Repeat("a/", 1<<20)+"a") || !tree.Path(long[:200]) {
		t.Error("paths of many bytes")
	}
}

// P10.1: all short paths of signs that matter.
func TestPathAllShort(t *testing.T) {
	for _, l := range lists(7, []string{"a", "/", ".", "\x1f", "\xe9"}) {
		if p := strings.Join(l, ""); tree.Path(p) != canBe(p) {
			t.Fatalf("%q: %v", p, !canBe(p))
		}
	}
}

// P10.1: trees, written out.
func TestRightKnown(t *testing.T) {
	for _, paths := range [][]string{
		{}, {"a"}, {"a", "b"}, {"a", "a/b"}, {"a", "aa"}, {"a", "a/b", "b"}, {"Z", "a"}, {"a-b", "a.b", "a/b", "a0b", "ab"}, {"10", "9"}, {"a b", "a/b"}, {"z", "\u00e9"}, {"\x7e", "\x80"}, {"\x80", "\xff"}, {"\uffff", "\U00010000"}, {"a", "a "}, {"A/z", "a/a"}, {"a.", "a/b"}, {strings.Repeat("a", 199), strings.Repeat("a", 200)},
	} {
		checkRight(t, at(paths...), true)
	}
	for _, paths := range [][]string{
		{""}, {"/"}, {".."}, {"a/"}, {"a\n"}, {"a", "a"}, {"b", "a"}, {"a/b", "a"}, {"aa", "a"}, {"a", "b", "b"}, {"a", "a", "b"}, {"a", "c", "b"}, {"b", "a", "c"}, {"a", "b", "a"}, {"", "a"}, {"a", ""}, {"a", "b", ".."}, {"a", "b/", "c"}, {"..", "a"}, {".", "a", "b"}, {"a", "Z"}, {"9", "10"}, {"a/b", "a b"}, {"a0", "a/b"}, {"\u00e9", "z"}, {"\xff", "\x80"}, {"\U00010000", "\uffff"}, {strings.Repeat("a", 201)}, {"a", strings.Repeat("b", 201)}, {strings.Repeat("a", 200), strings.Repeat("a", 199)},
	} {
		checkRight(t, at(paths...), false)
	}
	// A text may be of any bytes.
	checkRight(t, files("a", "", "b", "\x00", "c", "\xff\n/..", "d", "\x7f"), true)
	checkRight(t, files("a", "x", "a", "y"), false)
}

// P10.1, P10.3, P10.4: all short trees, right or not: each right one has a form and a name of its own, of others nothing is told.
func TestAllShort(t *testing.T) {
	var some []api.File
	for _, p := range []string{"a", "a/b", "a.b", "b", "", "a/", "aa", "\x80", "..."} {
		some = append(some, files(p, "", p, "\x01a")...)
	}
	seen := map[string]bool{}
	for _, l := range lists(4, some) {
		checkRight(t, l, isRight(l))
		checkForm(t, l)
		if !isRight(l) {
			continue
		}
		form, _ := tree.Encode(l)
		if id := string(tree.Name(l)); seen[string(form)] || seen[id] {
			t.Fatalf("%q: the form, or the name, is another one's", l)
		}
		seen[string(form)], seen[string(tree.Name(l))] = true, true
	}
}

// P10.1, P10.3: the greatest path, text and number of files, and each with one more.
func TestMost(t *testing.T) {
	path, text := strings.Repeat("p", 200), strings.Repeat("t", 65536)
	for _, x := range []struct {
		t    []api.File
		want bool
	}{
		{files(path, text), true}, {files(path+"p", text), false}, {files(path, text+"t"), false}, {files("a", "", path, text), true}, {files("a", text+"t", path, ""), false}, {files("a", "", path, text+"t"), false},
		{many(999, ""), true}, {many(1000, ""), true}, {many(1001, ""), false}, {many(1500, "x"), false}, {many(5000, ""), false},
		{slices.Concat(many(999, ""), files("g", text)), true}, {slices.Concat(many(999, ""), files("g", text+"t")), false}, {slices.Concat(files("a", text+"t"), many(999, "")), false}, {slices.Concat(many(999, ""), files("a", "")), false}, {slices.Concat(many(999, ""), files("g/", "")), false}, {slices.Concat(many(999, ""), many(1, "")), false},
	} {
		checkRight(t, x.t, x.want)
		checkForm(t, x.t)
	}
}

// sorted are a map's files.
func sorted(m map[string]string) []api.File {
	var out []api.File
	for _, p := range slices.SortedFunc(maps.Keys(m), func(a, b string) int {
		if less(a, b) {
			return -1
		}
		return 1
	}) {
		out = append(out, api.File{Path: p, Text: m[p]})
	}
	return out
}

// checkFiles holds what is told of one path, and of it put and dropped, against a map.
func checkFiles(t *testing.T, m map[string]string, p string) {
	t.Helper()
	l := sorted(m)
	want, there := m[p]
	if s, ok := tree.Get(l, p); s != want || ok != there {
		t.Fatalf("%q: get %q: %q, %v", l, p, s, ok)
	}
	without := maps.Clone(m)
	delete(without, p)
	if d, ok := tree.Drop(l, p); !slices.Equal(d, sorted(without)) || ok != there || !tree.Right(d) {
		t.Fatalf("%q: drop %q: %q, %v", l, p, d, ok)
	}
	d, e := tree.Put(l, api.File{Path: p, Text: "new"})
	if !canBe(p) {
		if d != nil || e != api.ErrPath {
			t.Fatalf("%q: put %q: %q, %d", l, p, d, e)
		}
		return
	}
	with := maps.Clone(m)
	with[p] = "new"
	if !slices.Equal(d, sorted(with)) || e != api.OK || !tree.Right(d) {
		t.Fatalf("%q: put %q: %q, %d", l, p, d, e)
	}
}

// P10.2: all trees of some paths, and each path, there or not, got, put and dropped.
func TestFilesAll(t *testing.T) {
	paths := []string{"a", "a b", "a-", "a.", "a/b", "a0", "b", "\u00e9", "\xff"}
	asked := slices.Concat(paths, []string{"", "A", "aa", "c", "a/", "/a", "a/b/c", "a//b", "..", "a\n", "\x7f", "\x00", "~", "\xff\xff", strings.Repeat("a", 201)})
	for set := range 1 << len(paths) {
		m := map[string]string{}
		for i, p := range paths {
			if set>>i&1 == 1 {
				m[p] = strings.Repeat("x", i)
			}
		}
		for _, p := range asked {
			checkFiles(t, m, p)
		}
	}
}

// P10.2: a file with an empty text is there; one that was put with an empty text, too.
func TestEmptyText(t *testing.T) {
	l := files("a", "", "b", "x")
	if s, ok := tree.Get(l, "a"); s != "" || !ok {
		t.Errorf("%q, %v", s, ok)
	}
	l, e := tree.Put(l, api.File{Path: "b"})
	if !slices.Equal(l, files("a", "", "b", "")) || e != api.OK {
		t.Errorf("%q, %d", l, e)
	}
	l, ok := tree.Drop(l, "b")
	if !slices.Equal(l, files("a", "")) || !ok {
		t.Errorf("%q, %v", l, ok)
	}
}

// P10.2: what is wrong with a file that is put, the path first, then what is too long.
func TestPutWrong(t *testing.T) {
	long := strings.Repeat("t", 65537)
	few, full, over := files("b", "x"), many(1000, "x"), many(1001, "x")
	for i, x := range []struct {
		t    []api.File
		f    api.File
		want api.Errno
	}{
		{nil, api.File{Path: "a", Text: long[1:]}, api.OK}, {nil, api.File{Path: "a", Text: long}, api.ErrLong}, {few, api.File{Path: "b", Text: long[1:]}, api.OK}, {few, api.File{Path: "b", Text: long}, api.ErrLong}, {few, api.File{Path: "c", Text: long + long}, api.ErrLong},
		{nil, api.File{}, api.ErrPath}, {few, api.File{Path: "a/"}, api.ErrPath}, {few, api.File{Path: "", Text: long}, api.ErrPath}, {few, api.File{Path: "..", Text: long}, api.ErrPath}, {nil, api.File{Path: strings.Repeat("a", 200)}, api.OK}, {nil, api.File{Path: strings.Repeat("a", 201)}, api.ErrPath}, {nil, api.File{Path: strings.Repeat("a", 201), Text: long}, api.ErrPath},
		{full[:999], api.File{Path: "a"}, api.OK}, {full[:999], api.File{Path: "g"}, api.OK}, {full[:999], api.File{Path: "f10500/x"}, api.OK}, {full[1:], api.File{Path: full[0].Path}, api.OK},
		{full, api.File{Path: "a"}, api.ErrLong}, {full, api.File{Path: "g"}, api.ErrLong}, {full, api.File{Path: "f10500/x"}, api.ErrLong}, {full, api.File{Path: ".."}, api.ErrPath}, {full, api.File{Path: "\n", Text: long}, api.ErrPath}, {full, api.File{Path: "a", Text: long}, api.ErrLong},
		// In place of one that is there: no more files than before.
		{full, api.File{Path: full[0].Path}, api.OK}, {full, api.File{Path: full[999].Path, Text: long[1:]}, api.OK}, {full, api.File{Path: full[500].Path, Text: "y"}, api.OK}, {full, api.File{Path: full[500].Path, Text: long}, api.ErrLong},
		{over, api.File{Path: "a"}, api.ErrLong}, {over, api.File{Path: "/"}, api.ErrPath},
	} {
		l, e := tree.Put(x.t, x.f)
		if e != x.want || e != api.OK && l != nil {
			t.Errorf("%d: %.99q, %d, not %d", i, l, e, x.want)
		}
		if e != api.OK {
			continue
		}
		if s, ok := tree.Get(l, x.f.Path); s != x.f.Text || !ok || !tree.Right(l) {
			t.Errorf("%d: %.99q, %.99q, %v", i, l, s, ok)
		}
	}
}

// some are numbers that are made by a rule, each unlike the last one.
type some uint32

// below is a number.
func (s *some) below(n int) int {
	*s = *s*1664525 + 1013904223
	return int(*s>>16) % n
}

// P10.2, P10.3: files put and dropped, again and again, up to a full tree and back.
func TestFilesMany(t *testing.T) {
	s := some(10)
	m := map[string]string{}
	var l []api.File
	for i := range 12000 {
		p := strconv.Itoa(s.below(1400))
		if s.below(4) == 0 {
			p += "/" + strconv.Itoa(s.below(2))
		}
		_, there := m[p]
		if s.below(4) == 0 || i > 9000 && s.below(3) > 0 {
			next, ok := tree.Drop(l, p)
			if ok != there {
				t.Fatalf("drop %q: %v", p, ok)
			}
			delete(m, p)
			l = next
		} else {
			next, e := tree.Put(l, api.File{Path: p, Text: strconv.Itoa(i)})
			if !there && len(m) == 1000 {
				if next != nil || e != api.ErrLong {
					t.Fatalf("put %q: %.99q, %d", p, next, e)
				}
				continue
			}
			m[p] = strconv.Itoa(i)
			if e != api.OK {
				t.Fatalf("put %q: %d", p, e)
			}
			l = next
		}
		if text, ok := tree.Get(l, p); text != m[p] || ok != (m[p] != "") {
			t.Fatalf("get %q: %q, %v", p, text, ok)
		}
		if len(l) != len(m) || !tree.Right(l) {
			t.Fatalf("%d files, not %d, or not right", len(l), len(m))
		}
		if i%97 == 0 {
			checkForm(t, l)
			if !slices.Equal(l, sorted(m)) {
				t.Fatal("other files")
			}
		}
	}
}

// P10.3: forms, written out.
func TestFormKnown(t *testing.T) {
	for _, x := range []struct {
		t    []api.File
		want string
	}{
		{files("a", "b"), "\x01\x01\x61\x01\x62"}, // the document's example
		{nil, "\x00"},
		{files("a", ""), "\x01\x01a\x00"},
		{files("a", "a!", "a/b", "", "b", "\x00\xff"), "\x03\x01a\x02a!\x03a/b\x00\x01b\x02\x00\xff"},
		{files(strings.Repeat("p", 127), strings.Repeat("t", 127)), "\x01\x7f" + strings.Repeat("p", 127) + "\x7f" + strings.Repeat("t", 127)},
		{files(strings.Repeat("p", 128), strings.Repeat("t", 128)), "\x01\x80\x01" + strings.Repeat("p", 128) + "\x80\x01" + strings.Repeat("t", 128)},
		{files(strings.Repeat("p", 200), strings.Repeat("t", 65536)), "\x01\xc8\x01" + strings.Repeat("p", 200) + "\x80\x80\x04" + strings.Repeat("t", 65536)},
		{many(2, "xy"), "\x02\x06f10000\x02xy\x06f10001\x02xy"},
	} {
		b, e := tree.Encode(x.t)
		if string(b) != x.want || e != api.OK {
			t.Errorf("%.99q: %.99q, %d", x.t, b, e)
		}
		checkDecode(t, x.want, x.t, api.OK)
		if id := tree.Name(x.t); id != nameOf(x.want) {
			t.Errorf("%.99q: name %x", x.t, id)
		}
	}
	for n, front := range map[int]string{127: "\x7f", 128: "\x80\x01", 129: "\x81\x01", 1000: "\xe8\x07"} {
		if b, e := tree.Encode(many(n, "")); !strings.HasPrefix(string(b), front+"\x06f10000\x00") || len(b) != len(front)+8*n || e != api.OK {
			t.Errorf("%d files: %.99q, %d", n, b, e)
		}
		checkForm(t, many(n, "x"))
	}
}

// P10.3: a name is known from elsewhere, and is that of the form.
func TestNameKnown(t *testing.T) {
	// That of one byte 0.
	const none = "\x6e\x34\x0b\x9c\xff\xb3\x7a\x98\x9c\xa5\x44\xe6\xbb\x78\x0a\x2c\x78\x90\x1d\x3f\xb3\x37\x38\x76\x85\x11\xa3\x06\x17\xaf\xa0\x1d"
	if id := tree.Name(nil); id != none {
		t.Errorf("%x", id)
	}
	if id := tree.Name(files("a", "b")); id != nameOf("\x01\x01a\x01b") || len(id) != 32 {
		t.Errorf("%x", id)
	}
	for _, l := range [][]api.File{files("..", ""), files("b", "", "a", ""), files("a", "", "a", ""), files("a", strings.Repeat("t", 65537)), many(1001, "")} {
		if id := tree.Name(l); id != "" {
			t.Errorf("%.99q: %x", l, id)
		}
		if b, e := tree.Encode(l); b != nil || e != api.ErrArg {
			t.Errorf("%.99q: %.99q, %d", l, b, e)
		}
	}
}

// P10.3: bytes that are no form, written out, with the first error of each.
func TestDecodeWrong(t *testing.T) {
	path, text := strings.Repeat("p", 201), strings.Repeat("t", 65537)
	for _, x := range []struct {
		b    string
		want api.Errno
	}{
		// Chapter 2's errors, of each number and each text.
		{"", api.ErrShort}, {"\x80", api.ErrShort}, {"\x80\x00", api.ErrForm}, {"\x81\x00\x01a\x00", api.ErrForm}, {"\x80\x80", api.ErrShort}, {strings.Repeat("\x80", 9), api.ErrShort}, {strings.Repeat("\x80", 10), api.ErrForm}, {strings.Repeat("\xff", 9) + "\x02", api.ErrForm},
		{"\x01", api.ErrShort}, {"\x01\x01", api.ErrShort}, {"\x01\x81", api.ErrShort}, {"\x01\x81\x00a\x00", api.ErrForm}, {"\x01\x02a", api.ErrShort}, {"\x01" + strings.Repeat("\xff", 10), api.ErrForm},
		{"\x01\x01a", api.ErrShort}, {"\x01\x01a\x01", api.ErrShort}, {"\x01\x01a\x80", api.ErrShort}, {"\x01\x01a\x80\x00", api.ErrForm}, {"\x01\x01a\x02x", api.ErrShort}, {"\x01\x01a" + strings.Repeat("\xff", 10), api.ErrForm},
		{"\x02\x01a\x00", api.ErrShort}, {"\x02\x01a\x00\x01b", api.ErrShort}, {"\x02\x01a\x00\x01b\x80\x00", api.ErrForm}, {"\xe8\x07", api.ErrShort}, {"\x7f", api.ErrShort},
		// Too many files: as soon as that is read, whatever stands behind.
		{"\xe9\x07", api.ErrLong}, {"\xe9\x07\x80\x00", api.ErrLong}, {"\xe9\x07\x00", api.ErrLong}, {"\xe8\x08", api.ErrLong}, {"\x80\x80\x04", api.ErrLong}, {"\x80\x80\x80\x80\x10", api.ErrLong}, {"\xff\xff\xff\xff\x07", api.ErrLong}, {strings.Repeat("\xff", 8) + "\x7f", api.ErrLong}, {strings.Repeat("\x80", 9) + "\x01", api.ErrLong}, {strings.Repeat("\xff", 9) + "\x01", api.ErrLong}, {"\x81\x80\x80\x80\x80\x80\x80\x80\x80\x01\x01a\x00", api.ErrLong}, {"\xe9\x87\x00", api.ErrForm},
		// Texts that are too long: ahead of whether so many bytes are left.
		{"\x01\xc8\x01", api.ErrShort}, {"\x01\xc9\x01", api.ErrLong}, {"\x01\xc9\x01" + path + "\x00", api.ErrLong}, {"\x01\xc8\x01" + path[1:] + "\x00", api.OK}, {"\x01\x80\x80\x04", api.ErrLong}, {"\x01" + strings.Repeat("\xff", 9) + "\x01", api.ErrLong},
		{"\x01\x01a\x80\x80\x04", api.ErrShort}, {"\x01\x01a\x81\x80\x04", api.ErrLong}, {"\x01\x01a\x81\x80\x04" + text, api.ErrLong}, {"\x01\x01a\x80\x80\x04" + text[1:], api.OK}, {"\x01\x01a" + strings.Repeat("\xff", 9) + "\x01", api.ErrLong}, {"\x02\x01a\x00\x01b\x81\x80\x04", api.ErrLong}, {"\x02\x01a\x00\xc9\x01", api.ErrLong},
		// Bytes that are left.
		{"\x00\x00", api.ErrTail}, {"\x00\x80", api.ErrTail}, {"\x01\x01a\x01b\x00", api.ErrTail}, {"\x01\x01a\x01bc", api.ErrTail}, {"\x01\x01a\x00\x01b\x00", api.ErrTail}, {"\x00" + text, api.ErrTail},
		// What was read isn't right.
		{"\x01\x00\x01b", api.ErrForm}, {"\x01\x01/\x00", api.ErrForm}, {"\x01\x02..\x00", api.ErrForm}, {"\x01\x02a\n\x00", api.ErrForm}, {"\x01\x01\x7f\x00", api.ErrForm}, {"\x02\x01a\x00\x01a\x00", api.ErrForm}, {"\x02\x01b\x00\x01a\x00", api.ErrForm}, {"\x02\x03a/b\x00\x01a\x00", api.ErrForm}, {"\x02\x01a\x00\x00\x00", api.ErrForm}, {"\x03\x01a\x00\x01b\x00\x01b\x00", api.ErrForm},
		// Where it isn't right, and something else is wrong, that comes first, wherever it stands.
		{"\x01\x01/\x00\x00", api.ErrTail}, {"\x02\x01b\x00\x01a\x00\x00", api.ErrTail}, {"\x02\x00\x00", api.ErrShort}, {"\x02\x00\x00\x01", api.ErrShort}, {"\x02\x01/\x00\xc9\x01", api.ErrLong}, {"\x02\x01b\x00\x01a\x81\x80\x04", api.ErrLong}, {"\x01\x01/", api.ErrShort}, {"\x01\x01/\x81\x80\x04", api.ErrLong},
		// The first one that is read fails, whatever stands behind.
		{"\x02\xc9\x01\x80\x00", api.ErrLong}, {"\x02\x80\x00\xc9\x01", api.ErrForm}, {"\x01\x01a\x80\x00\xc9\x01", api.ErrForm}, {"\x02\x01a\x7fx\x80\x00", api.ErrShort},
	} {
		want, e := treeOf(x.b)
		if e != x.want && len(x.b) < 9 { // in more bytes there may be numbers that are too great for the test's own reader
			t.Fatalf("%.99q: the test's own reader tells %d", x.b, e)
		}
		checkDecode(t, x.b, want, x.want)
	}
}

// P10.3, P10.4: all short rows of bytes that matter: the tree, or the first error; what is read has that form.
func TestDecodeAllShort(t *testing.T) {
	trees := 0
	for _, b := range lists(8, []byte{0, 1, 2, 'a', '/', 0x81}) {
		want, e := treeOf(string(b))
		checkDecode(t, string(b), want, e)
		if e == api.OK {
			trees++
		}
	}
	if trees < 20 {
		t.Errorf("%d trees alone", trees)
	}
}

// P10.3: a form that is cut off at each place, that has something behind it, and that has one byte amiss at each place.
func TestDecodeSpoilt(t *testing.T) {
	for _, l := range [][]api.File{nil, files("a", "b"), files("a", "", "a/b", "x", "b", ""), files("a", strings.Repeat("t", 200), "b/c", "\x80\x81", "d", ""), files(strings.Repeat("p", 150), "", "q", "z")} {
		form := formOf(l)
		for i := range form {
			checkDecode(t, form[:i], nil, api.ErrShort)
			for x := range 256 {
				b := []byte(form)
				b[i] = byte(x)
				want, e := treeOf(string(b))
				checkDecode(t, string(b), want, e)
			}
		}
		for x := range 256 {
			checkDecode(t, form+string([]byte{byte(x)}), nil, api.ErrTail)
		}
		checkDecode(t, form+form, nil, api.ErrTail)
		checkDecode(t, form, l, api.OK)
	}
}

// P10.3: as many files as may be, and one more; their paths wrong in the last one alone.
func TestDecodeMany(t *testing.T) {
	checkDecode(t, formOf(many(1000, "x")), many(1000, "x"), api.OK)
	checkDecode(t, formOf(many(1001, "x")), nil, api.ErrLong)
	checkDecode(t, formOf(many(2000, "")), nil, api.ErrLong)
	for _, last := range []string{"a", "f10998", "g/", "", "f10998\n"} {
		checkDecode(t, formOf(append(many(999, "x"), files(last, "x")...)), nil, api.ErrForm)
	}
}

// P10.3, R1: the greatest tree.
func TestGreatest(t *testing.T) {
	l := many(1000, strings.Repeat("t", 65536))
	for i := range l {
		l[i].Path = strings.Repeat("p", 194) + l[i].Path
	}
	checkForm(t, l)
	last := l[999]
	d, ok := tree.Drop(l, last.Path)
	if len(d) != 999 || !ok {
		t.Errorf("%d files, %v", len(d), ok)
	}
	if d, e := tree.Put(d, last); !slices.Equal(d, l) || e != api.OK {
		t.Errorf("%d files, %d", len(d), e)
	}
}

// R1, R3: of trees that aren't right, and of any path, each call tells something.
func TestNoneFails(t *testing.T) {
	long := strings.Repeat("x", 70000)
	wrong := [][]api.File{nil, files("", ""), files("b", "", "a", ""), files("a", "x", "a", "y", "a", "z"), files(long, long), files("..", "", "\x00", "", "/", ""), many(3000, "x"), slices.Concat(many(30, ""), many(30, "")), make([]api.File, 2000)}
	for _, l := range wrong {
		for _, p := range []string{"", "a", "b", "f10010", "f99999", "..", "\xff", long} {
			if s, ok := tree.Get(l, p); !ok && s != "" {
				t.Errorf("%.99q: get %.99q: %.99q", l, p, s)
			}
			tree.Drop(l, p)
			if d, e := tree.Put(l, api.File{Path: p, Text: "x"}); e != api.OK && d != nil {
				t.Errorf("%.99q: put %.99q: %.99q, %d", l, p, d, e)
			}
		}
		checkRight(t, l, isRight(l))
		checkForm(t, l)
	}
}

// R4: no list and an empty one are the same.
func TestNil(t *testing.T) {
	for _, none := range [][]api.File{nil, {}, many(1, "")[:0]} {
		checkRight(t, none, true)
		checkForm(t, none)
		if s, ok := tree.Get(none, "a"); s != "" || ok {
			t.Errorf("%q, %v", s, ok)
		}
		if d, ok := tree.Drop(none, "a"); len(d) != 0 || ok {
			t.Errorf("%q, %v", d, ok)
		}
		if d, e := tree.Put(none, api.File{Path: "a", Text: "b"}); !slices.Equal(d, files("a", "b")) || e != api.OK {
			t.Errorf("%q, %d", d, e)
		}
	}
	for _, none := range [][]byte{nil, {}} {
		if d, e := tree.Decode(none); d != nil || e != api.ErrShort {
			t.Errorf("%q, %d", d, e)
		}
	}
}

// R5: what is handed in is not changed, nor is what stands behind it.
func TestHandedIn(t *testing.T) {
	whole, kept := many(12, "x"), many(12, "x")
	for n := range whole {
		l := whole[:n]
		for _, f := range append(files("a", "new", "g", "new", "f10005/x", "new", "..", "new"), kept...) {
			f.Text = "new"
			tree.Right(l)
			tree.Get(l, f.Path)
			tree.Put(l, f)
			tree.Drop(l, f.Path)
			tree.Encode(l)
			tree.Name(l)
		}
	}
	if !slices.Equal(whole, kept) {
		t.Errorf("what was handed in was changed: %q", whole)
	}
	b := []byte(formOf(kept) + "behind")
	before := bytes.Clone(b)
	for n := range b {
		tree.Decode(b[:n])
	}
	if !bytes.Equal(b, before) {
		t.Errorf("what was handed in was changed: %q", b)
	}
}

// spoil changes a list, and what stands behind it.
func spoil(l []api.File) {
	for i := range l {
		l[i] = api.File{Path: "spoilt", Text: "spoilt"}
	}
	l = l[:cap(l)]
	for i := range l {
		l[i].Path = "spoilt"
	}
}

// R5: what is answered is memory of its own: who changes it, or what was handed in, changes nothing else.
func TestOwnMemory(t *testing.T) {
	calls := map[string]func([]api.File) []api.File{
		"put ahead":    func(l []api.File) []api.File { d, _ := tree.Put(l, api.File{Path: "a"}); return d },
		"put within":   func(l []api.File) []api.File { d, _ := tree.Put(l, api.File{Path: "f10001/x"}); return d },
		"put behind":   func(l []api.File) []api.File { d, _ := tree.Put(l, api.File{Path: "g"}); return d },
		"put in place": func(l []api.File) []api.File { d, _ := tree.Put(l, api.File{Path: "f10001"}); return d },
		"put the same": func(l []api.File) []api.File { d, _ := tree.Put(l, api.File{Path: "f10001", Text: "x"}); return d },
		"drop first":   func(l []api.File) []api.File { d, _ := tree.Drop(l, "f10000"); return d },
		"drop within":  func(l []api.File) []api.File { d, _ := tree.Drop(l, "f10001"); return d },
		"drop last":    func(l []api.File) []api.File { d, _ := tree.Drop(l, "f10003"); return d },
		"drop none":    func(l []api.File) []api.File { d, _ := tree.Drop(l, "a"); return d },
		"drop no path": func(l []api.File) []api.File { d, _ := tree.Drop(l, ""); return d },
	}
	for name, call := range calls {
		whole := many(6, "x")
		l := whole[:4] // with room behind it
		first, second, want := call(l), call(l), slices.Clone(call(l))
		spoil(second)
		if !slices.Equal(whole, many(6, "x")) {
			t.Errorf("%s: what was handed in was changed: %q", name, whole)
		}
		spoil(whole)
		if !slices.Equal(first, want) {
			t.Errorf("%s: what was answered was changed: %q", name, first)
		}
	}
}

// R5: forms, and trees that were read, are memory of their own.
func TestOwnForms(t *testing.T) {
	l := many(4, "x")
	first, _ := tree.Encode(l)
	second, _ := tree.Encode(l)
	form := string(first)
	clear(second)
	_ = append(second[:0], "spoilt"...)
	spoil(l)
	if string(first) != form {
		t.Errorf("a form was changed: %q", first)
	}
	one, _ := tree.Decode(first)
	other, _ := tree.Decode(first)
	spoil(other)
	clear(first)
	if !slices.Equal(one, many(4, "x")) {
		t.Errorf("a tree that was read was changed: %q", one)
	}
}

// R6: asked again, by several at once, the same is told.
func TestTogether(t *testing.T) {
	l := files("a", "x", "a/b", "y", "b", "z")
	form := formOf(l)
	id := nameOf(form)
	var all sync.WaitGroup
	for range 8 {
		all.Go(func() {
			for range 200 {
				b, _ := tree.Encode(l)
				d, _ := tree.Decode(b)
				p, _ := tree.Put(l, api.File{Path: "a/c", Text: "new"})
				back, ok := tree.Drop(p, "a/c")
				s, _ := tree.Get(l, "a/b")
				if string(b) != form || tree.Name(l) != id || !slices.Equal(d, l) || len(p) != 4 || !slices.Equal(back, l) || !ok || s != "y" || !tree.Right(l) {
					t.Error("something else, when several ask")
				}
			}
		})
	}
	all.Wait()
}
