package patch_test

import (
	"bytes"
	"crypto/sha256"
	"maps"
	"math"
	"slices"
	"strconv"
	"strings"
	"sync"
	"testing"

	"grapevine/api"
	"grapevine/patch"
	"grapevine/tree"
)

// id is a patch's name of one letter.
func id(letter string) api.Id { return api.Id(strings.Repeat(letter, 32)) }

// on is a patch on others, of a letter each.
func on(letters ...string) api.Patch {
	var p api.Patch
	for _, s := range letters {
		p.Parents = append(p.Parents, id(s))
	}
	return p
}

// put is a change that puts a file, and drop one that takes it away.
func put(path, text string) api.Change { return api.Change{Path: path, Text: text} }
func drop(path string) api.Change      { return api.Change{Path: path, Gone: true} }

// of is a patch of changes alone.
func of(l ...api.Change) api.Patch { return api.Patch{Changes: l} }

// files are some, of a path and a text each.
func files(l ...string) []api.File {
	var out []api.File
	for i := 0; i+1 < len(l); i += 2 {
		out = append(out, api.File{Path: l[i], Text: l[i+1]})
	}
	return out
}

// many are so many files with rising paths that begin alike, and one text.
func many(begin string, n int, text string) []api.File {
	var out []api.File
	for i := range n {
		out = append(out, api.File{Path: begin + strconv.Itoa(10000+i), Text: text})
	}
	return out
}

// puts are changes that put files.
func puts(t []api.File) []api.Change {
	var out []api.Change
	for _, f := range t {
		out = append(out, put(f.Path, f.Text))
	}
	return out
}

// parents are so many, rising.
func parents(n int) []api.Id {
	var out []api.Id
	for i := range n {
		out = append(out, api.Id(strings.Repeat("p", 31)+string([]byte{byte(i)})))
	}
	return out
}

// filled is a patch whose form has so many bytes; they may be from 70000 to 131300.
func filled(n int) api.Patch {
	p := api.Patch{Author: "author", Note: "note", Changes: []api.Change{put("a", strings.Repeat("t", 65536)), put("b", strings.Repeat("t", 2000)), drop("c")}}
	p.Changes[1].Text = strings.Repeat("t", 2000+n-len(formOf(p)))
	// The number of the second text's bytes has one byte more, if that is above 16383.
	p.Changes[1].Text = p.Changes[1].Text[:len(p.Changes[1].Text)+n-len(formOf(p))]
	return p
}

// isRight tells whether a patch is right, by what the document says of it.
func isRight(p api.Patch) bool {
	for i, id := range p.Parents {
		if len(id) != 32 || i > 0 && strings.Compare(string(p.Parents[i-1]), string(id)) != -1 {
			return false
		}
	}
	for i, c := range p.Changes {
		if !tree.Path(c.Path) || len(c.Text) > 65536 || i > 0 && strings.Compare(p.Changes[i-1].Path, c.Path) != -1 {
			return false
		}
		if c.Gone && len(c.Text) > 0 {
			return false
		}
	}
	if len(p.Parents) > 16 || len(p.Author) > 100 || len(p.Note) > 1000 || len(p.Changes) > 100 {
		return false
	}
	return len(formOf(p)) <= 131072
}

// number is a number's form.
func number(n uint64) string {
	if n < 128 {
		return string([]byte{byte(n)})
	}
	return string([]byte{byte(n%128 + 128)}) + number(n/128)
}

// text is a text's form.
func text(s string) string { return number(uint64(len(s))) + s }

// formOf is a patch's form, by what the document says of it.
func formOf(p api.Patch) string {
	var out strings.Builder
	out.WriteString(number(uint64(len(p.Parents))))
	for _, id := range p.Parents {
		out.WriteString(text(string(id)))
	}
	out.WriteString(text(p.Author) + text(p.Note) + number(uint64(len(p.Changes))))
	for _, c := range p.Changes {
		gone := "\x00"
		if c.Gone {
			gone = "\x01"
		}
		out.WriteString(text(c.Path) + gone + text(c.Text))
	}
	return out.String()
}

// form is bytes that are read from the front; ahead of the first error nothing failed.
type form struct {
	left string
	fail api.Errno
}

// failed keeps an error, if it is the first one, and is 0.
func (f *form) failed(e api.Errno) uint64 {
	if f.fail == api.OK {
		f.fail = e
	}
	return 0
}

// number is the one that stands first; 0, if it is above most.
func (f *form) number(most uint64) uint64 {
	many := 0
	for many < 10 && many < len(f.left) && f.left[many] >= 128 {
		many++
	}
	if many == 10 {
		return f.failed(api.ErrForm)
	}
	if many == len(f.left) {
		return f.failed(api.ErrShort)
	}
	n := uint64(0)
	for i := many; i >= 0; i-- {
		n = n*128 + uint64(f.left[i]%128)
	}
	// A number of 2^64 or more has gone round, and has another form now.
	if number(n) != f.left[:many+1] {
		return f.failed(api.ErrForm)
	}
	if n > most {
		return f.failed(api.ErrLong)
	}
	f.left = f.left[many+1:]
	return n
}

// text is the one that stands first.
func (f *form) text(most uint64) string {
	n := f.number(most)
	if n > uint64(len(f.left)) {
		n = f.failed(api.ErrShort)
	}
	out := f.left[:n]
	f.left = f.left[n:]
	return out
}

// patchOf is the patch of a form, or the error, by what the document says of it.
func patchOf(b string) (api.Patch, api.Errno) {
	f := form{left: b}
	if len(b) > 131072 {
		f.failed(api.ErrLong)
	}
	var p api.Patch
	for range f.number(16) {
		p.Parents = append(p.Parents, api.Id(f.text(32)))
	}
	p.Author, p.Note = f.text(100), f.text(1000)
	neither := false
	for range f.number(100) {
		c := api.Change{Path: f.text(200)}
		gone := f.number(math.MaxUint64)
		c.Gone, neither = gone == 1, neither || gone > 1
		c.Text = f.text(65536)
		p.Changes = append(p.Changes, c)
	}
	if f.left != "" {
		f.failed(api.ErrTail)
	}
	if neither || !isRight(p) {
		f.failed(api.ErrForm)
	}
	if f.fail != api.OK {
		return api.Patch{}, f.fail
	}
	return p, api.OK
}

// nameOf is a text's digest, by another program.
func nameOf(b string) api.Id {
	sum := sha256.Sum256([]byte(b))
	return api.Id(sum[:])
}

// same tells whether two patches are.
func same(p, q api.Patch) bool {
	return slices.Equal(p.Parents, q.Parents) && p.Author == q.Author && p.Note == q.Note && slices.Equal(p.Changes, q.Changes)
}

// none tells whether a patch is its zero value.
func none(p api.Patch) bool { return same(p, api.Patch{}) && p.Parents == nil && p.Changes == nil }

// lists are all of up to so many out of some.
func lists[T any](most int, of []T) [][]T {
	out, last := [][]T{nil}, [][]T{nil}
	for range most {
		var next [][]T
		for _, l := range last {
			for _, x := range of {
				next = append(next, append(slices.Clone(l), x))
			}
		}
		out, last = append(out, next...), next
	}
	return out
}

// check holds what is told of a patch, right or not, against the document's words; and the form's patch, where it has one.
func check(t *testing.T, p api.Patch, right bool) {
	t.Helper()
	if isRight(p) != right {
		t.Fatalf("%.999v: the test's own words tell %v", p, !right)
	}
	b, e := patch.Encode(p)
	name := patch.Name(p)
	if patch.Right(p) != right {
		t.Fatalf("%.999v: right is %v", p, !right)
	}
	if !right {
		if b != nil || e != api.ErrArg || name != "" {
			t.Fatalf("%.999v: %.99q, %d, name %q", p, b, e, name)
		}
		return
	}
	want := formOf(p)
	if string(b) != want || e != api.OK || name != nameOf(want) {
		t.Fatalf("%.999v: %.99q, %d, name %x", p, b, e, name)
	}
	if q, e := patch.Decode(b); !same(p, q) || e != api.OK {
		t.Fatalf("%.999v: read as %.999v, %d", p, q, e)
	}
}

// checkDecode holds the patch of bytes against what is wanted; and what is read against its form.
func checkDecode(t *testing.T, b string, want api.Patch, fail api.Errno) {
	t.Helper()
	p, e := patch.Decode([]byte(b))
	if !same(p, want) || e != fail || e != api.OK && !none(p) {
		t.Fatalf("%.999q: %.999v, %d, not %.999v, %d", b, p, e, want, fail)
	}
	if e != api.OK {
		return
	}
	if back, e := patch.Encode(p); string(back) != b || e != api.OK {
		t.Fatalf("%.999q: told as %.999q, %d", b, back, e)
	}
}

// checkBytes holds the patch of bytes against the document's words.
func checkBytes(t *testing.T, b string) api.Errno {
	t.Helper()
	want, e := patchOf(b)
	checkDecode(t, b, want, e)
	return e
}

// P12.1, P12.2: the limits are those that the document writes.
func TestLimits(t *testing.T) {
	if patch.MaxParents != 16 || patch.MaxAuthor != 100 || patch.MaxNote != 1000 || patch.MaxChanges != 100 || patch.MaxForm != 131072 {
		t.Error(patch.MaxParents, patch.MaxAuthor, patch.MaxNote, patch.MaxChanges, patch.MaxForm)
	}
}

// P12.1: patches that are right, written out.
func TestRight(t *testing.T) {
	long := strings.Repeat("x", 200)
	for _, p := range []api.Patch{
		{}, {Author: "me"}, {Note: "why"}, {Author: "\x00\xff\n/..", Note: "\x00\xff\n\x7f"}, {Author: strings.Repeat("\u00e9", 50)}, {Author: long[:100], Note: strings.Repeat(long, 5)},
		on("a"), on("\x00"), on("\xff"), on("a", "b"), on("\x00", "\x7f", "\x80", "\xff"), on("B", "a"), {Parents: parents(16)}, {Parents: []api.Id{api.Id("a" + long[:31]), api.Id("b" + strings.Repeat("a", 31))}},
		of(put("a", "")), of(put("a", "x")), of(drop("a")), of(put("a", "x"), put("b", "x")), of(put("a", "x"), put("a/b", "y"), drop("a0")), of(drop("a"), drop("b"), put("c", "")), of(put("Z", ""), put("a", "")), of(put("z", ""), drop("\u00e9")), of(put("a", "\x00\xff\n..")), of(drop("a"), put("a/b", "x")), of(put(long, long)), of(drop(long)), of(put("a", strings.Repeat("t", 65536))), {Changes: puts(many("f", 100, ""))},
		{Parents: parents(16), Author: long[:100], Note: strings.Repeat(long, 5), Changes: puts(many(long[:190], 100, long))},
	} {
		check(t, p, true)
	}
}

// P12.1, P12.3: patches that aren't right, each in one way, wherever it stands.
func TestWrong(t *testing.T) {
	long := strings.Repeat("x", 201)
	big := strings.Repeat("t", 65537)
	for _, p := range []api.Patch{
		// Parents: too many, not of 32 bytes, not rising.
		{Parents: parents(17)}, {Parents: parents(1000)}, {Parents: []api.Id{""}}, {Parents: []api.Id{"a"}}, {Parents: []api.Id{id("a")[:31]}}, {Parents: []api.Id{id("a") + "a"}}, {Parents: []api.Id{id("a") + id("a")}}, {Parents: []api.Id{"", id("a")}}, {Parents: []api.Id{id("a"), ""}}, {Parents: []api.Id{id("a"), "b"}}, {Parents: []api.Id{"a", id("b")}}, {Parents: []api.Id{id("a"), id("b")[:31], id("c")}}, {Parents: []api.Id{id("a"), id("b"), id("c") + "c"}}, {Parents: []api.Id{id("a"), id("a") + "\x00"}},
		on("a", "a"), on("b", "a"), on("a", "B"), on("a", "c", "b"), on("b", "a", "c"), on("a", "b", "b"), on("a", "a", "b"), on("a", "b", "a"), on("\xff", "\x00"), on("\x80", "\x7f"), {Parents: append(parents(15), id("a"))}, {Parents: append(parents(15), parents(1)...)},
		// The author, and the note.
		{Author: long[:101]}, {Author: strings.Repeat("\u00e9", 51)}, {Author: big}, {Note: strings.Repeat("n", 1001)}, {Note: strings.Repeat("\u00e9", 501)}, {Note: big},
		// Changes: too many, paths that can't be, or that don't rise, texts too long, or where none can be.
		{Changes: puts(many("f", 101, ""))}, {Changes: puts(many("f", 5000, "x"))}, {Changes: make([]api.Change, 100)}, {Changes: make([]api.Change, 1)},
		of(put("", "")), of(put("/", "x")), of(put("..", "x")), of(drop("..")), of(drop("")), of(drop("a/")), of(put("a\n", "")), of(put(long, "")), of(drop(long)), of(put("a", ""), put("", "")), of(put("a", ""), put("b/", ""), put("c", "")), of(put("a", ""), drop("b"), drop("c\x7f")), of(put("./a", "")),
		of(put("a", "x"), put("a", "x")), of(put("a", "x"), drop("a")), of(drop("a"), put("a", "x")), of(drop("a"), drop("a")), of(put("b", ""), put("a", "")), of(drop("b"), put("a", "")), of(put("a", ""), put("c", ""), put("b", "")), of(put("b", ""), put("a", ""), put("c", "")), of(put("a/b", ""), put("a", "")), of(put("a", ""), drop("b"), put("b", "")), of(put("a", ""), put("Z", "")), of(put("\u00e9", ""), put("z", "")), {Changes: append(puts(many("f", 99, "")), put("a", ""))},
		of(put("a", big)), of(put("a", ""), put("b", big), drop("c")), of(put("a", strings.Repeat(big, 100))),
		of(api.Change{Path: "a", Gone: true, Text: "x"}), of(api.Change{Path: "a", Gone: true, Text: "\x00"}), of(put("a", "x"), api.Change{Path: "b", Gone: true, Text: "x"}), of(api.Change{Path: "a", Gone: true, Text: "x"}, put("b", "x")), of(api.Change{Path: "a", Gone: true, Text: big}),
		// The form alone is too long.
		of(put("a", big[1:]), put("b", big[1:])), {Changes: puts(many("f", 100, big[:1400]))}, filled(131073), filled(131072 + 200),
	} {
		check(t, p, false)
		if p.Author == "" && p.Note == "" {
			p.Author, p.Note = "me", "why"
			check(t, p, false)
		}
		if p.Parents == nil {
			p.Parents = parents(3)
			check(t, p, false)
		}
		if p.Changes == nil {
			p.Changes = []api.Change{put("a", "x"), drop("b")}
			check(t, p, false)
		}
	}
}

// P12.1: each length around each limit, of what has one.
func TestLengths(t *testing.T) {
	x := strings.Repeat("x", 1100)
	for n := range len(x) + 1 {
		check(t, api.Patch{Author: x[:n]}, n <= 100)
		check(t, api.Patch{Note: x[:n]}, n <= 1000)
		check(t, of(put(x[:n], "")), n >= 1 && n <= 200)
		check(t, of(drop(x[:n])), n >= 1 && n <= 200)
		check(t, api.Patch{Parents: []api.Id{api.Id(x[:n])}}, n == 32)
	}
	for n := range 150 {
		check(t, api.Patch{Parents: parents(n)}, n <= 16)
		check(t, api.Patch{Changes: puts(many("f", n, "x"))}, n <= 100)
	}
	for n := 65530; n < 65545; n++ {
		check(t, of(put("a", strings.Repeat("t", n))), n <= 65536)
	}
}

// P12.1, P12.2: forms of around as many bytes as may be.
func TestFormLengths(t *testing.T) {
	for n := 131072 - 20; n < 131072+20; n++ {
		p := filled(n)
		if len(formOf(p)) != n {
			t.Fatalf("the test's own form has %d bytes, not %d", len(formOf(p)), n)
		}
		check(t, p, n <= 131072)
		if n > 131072 {
			checkDecode(t, formOf(p), api.Patch{}, api.ErrLong)
		}
	}
	// Its length is told ahead of all else, whatever the bytes are.
	for _, front := range []string{"", "\x00\x00\x00\x00", "\x80\x00", "\x11", strings.Repeat("\xff", 11)} {
		for _, fill := range []string{"\x00", "\x01", "\x80", "\xff"} {
			b := front + strings.Repeat(fill, 131073-len(front))
			checkDecode(t, b, api.Patch{}, api.ErrLong)
			if e := checkBytes(t, b[:131072]); e == api.OK {
				t.Errorf("%.99q is a form", b)
			}
		}
	}
}

// P12.1, P12.4: all patches of parts that matter.
func TestRightAll(t *testing.T) {
	right := 0
	for _, p := range lists(3, []api.Id{id("a"), id("b"), "", "c", id("c") + "c"}) {
		for _, l := range lists(2, []api.Change{put("a", "x"), drop("a"), put("b", ""), {Path: "b", Gone: true, Text: "y"}, put("..", ""), drop("c")}) {
			for _, author := range []string{"", "me", strings.Repeat("x", 101)} {
				q := api.Patch{Parents: p, Author: author, Note: author, Changes: l}
				ok := isRight(q)
				check(t, q, ok)
				if ok {
					right++
				}
			}
		}
	}
	if right < 60 {
		t.Errorf("%d right ones alone", right)
	}
}

// P12.1, P12.2: forms, written out.
func TestFormKnown(t *testing.T) {
	for _, x := range []struct {
		p    api.Patch
		want string
	}{
		{api.Patch{}, "\x00\x00\x00\x00"}, // the document's example
		{on("a"), "\x01\x20aaaaaaaaaaaaaaaaaaaaaaaaaaaaaaaa\x00\x00\x00"},
		{on("\x00", "\xff"), "\x02\x20" + strings.Repeat("\x00", 32) + "\x20" + strings.Repeat("\xff", 32) + "\x00\x00\x00"},
		{api.Patch{Author: "me"}, "\x00\x02me\x00\x00"}, {api.Patch{Note: "why\n"}, "\x00\x00\x04why\n\x00"}, {api.Patch{Author: "a", Note: "n"}, "\x00\x01a\x01n\x00"},
		{of(put("a", "")), "\x00\x00\x00\x01\x01a\x00\x00"}, {of(put("a", "b")), "\x00\x00\x00\x01\x01a\x00\x01b"}, {of(drop("a")), "\x00\x00\x00\x01\x01a\x01\x00"},
		{of(drop("a"), put("a/b", "\x00\xff"), drop("b")), "\x00\x00\x00\x03\x01a\x01\x00\x03a/b\x00\x02\x00\xff\x01b\x01\x00"},
		{api.Patch{Parents: []api.Id{id("a")}, Author: "me", Note: "n", Changes: []api.Change{put("x", "1\n2\n")}}, "\x01\x20" + string(id("a")) + "\x02me\x01n\x01\x01x\x00\x041\n2\n"},
		{api.Patch{Note: strings.Repeat("n", 127)}, "\x00\x00\x7f" + strings.Repeat("n", 127) + "\x00"}, {api.Patch{Note: strings.Repeat("n", 128)}, "\x00\x00\x80\x01" + strings.Repeat("n", 128) + "\x00"}, {api.Patch{Note: strings.Repeat("n", 1000)}, "\x00\x00\xe8\x07" + strings.Repeat("n", 1000) + "\x00"},
		{of(put(strings.Repeat("p", 200), strings.Repeat("t", 65536))), "\x00\x00\x00\x01\xc8\x01" + strings.Repeat("p", 200) + "\x00\x80\x80\x04" + strings.Repeat("t", 65536)},
	} {
		b, e := patch.Encode(x.p)
		if string(b) != x.want || e != api.OK {
			t.Errorf("%.99v: %.99q, %d", x.p, b, e)
		}
		check(t, x.p, true)
		checkDecode(t, x.want, x.p, api.OK)
	}
}

// P12.1: a name is known from elsewhere, and is that of the form.
func TestNameKnown(t *testing.T) {
	// That of four bytes 0.
	const want = "\xdf\x3f\x61\x98\x04\xa9\x2f\xdb\x40\x57\x19\x2d\xc4\x3d\xd7\x48\xea\x77\x8a\xdc\x52\xbc\x49\x8c\xe8\x05\x24\xc0\x14\xb8\x11\x19"
	if name := patch.Name(api.Patch{}); name != want {
		t.Errorf("%x", name)
	}
	names := map[api.Id]int{}
	for i, p := range []api.Patch{{}, {Author: "a"}, {Note: "a"}, on("a"), on("b"), on("a", "b"), of(put("a", "")), of(drop("a")), of(put("b", "")), of(put("a", "x"))} {
		name := patch.Name(p)
		if k, there := names[name]; there || len(name) != 32 {
			t.Errorf("%v: name %x, as of %d", p, name, k)
		}
		names[name] = i
	}
	// Who stands on a patch has its name as a parent.
	if p := (api.Patch{Parents: []api.Id{patch.Name(api.Patch{})}}); patch.Name(p) != nameOf("\x01\x20"+want+"\x00\x00\x00") {
		t.Errorf("%x", patch.Name(p))
	}
}

// P12.2, R2: bytes that are no form, written out, with the first error of each.
func TestDecodeWrong(t *testing.T) {
	a, b := "\x20"+string(id("a")), "\x20"+string(id("b"))
	note, big := strings.Repeat("n", 1001), strings.Repeat("t", 65537)
	for _, x := range []struct {
		b    string
		want api.Errno
	}{
		// Chapter 2's errors, of each number and each text, in order.
		{"", api.ErrShort}, {"\x80", api.ErrShort}, {"\x80\x00", api.ErrForm}, {strings.Repeat("\x80", 9), api.ErrShort}, {strings.Repeat("\x80", 10), api.ErrForm}, {strings.Repeat("\xff", 9) + "\x02", api.ErrForm},
		{"\x01", api.ErrShort}, {"\x01\x20", api.ErrShort}, {"\x01" + a[:32], api.ErrShort}, {"\x01\x80\x00", api.ErrForm}, {"\x01\xa0\x00" + a[1:], api.ErrForm}, {"\x02" + a, api.ErrShort}, {"\x02" + a + b[:5], api.ErrShort}, {"\x10" + a, api.ErrShort},
		{"\x00", api.ErrShort}, {"\x00\x01", api.ErrShort}, {"\x00\x02m", api.ErrShort}, {"\x00\x80\x00", api.ErrForm}, {"\x00\x64", api.ErrShort}, {"\x01" + a, api.ErrShort},
		{"\x00\x00", api.ErrShort}, {"\x00\x00\x01", api.ErrShort}, {"\x00\x00\x80\x00", api.ErrForm}, {"\x00\x00\xe8\x07", api.ErrShort}, {"\x00\x02me", api.ErrShort},
		{"\x00\x00\x00", api.ErrShort}, {"\x00\x00\x00\x80", api.ErrShort}, {"\x00\x00\x00\x80\x00", api.ErrForm}, {"\x00\x00\x00" + strings.Repeat("\xff", 10), api.ErrForm},
		{"\x00\x00\x00\x01", api.ErrShort}, {"\x00\x00\x00\x64", api.ErrShort}, {"\x00\x00\x00\x01\x01", api.ErrShort}, {"\x00\x00\x00\x01\x02a", api.ErrShort}, {"\x00\x00\x00\x01\x80\x00", api.ErrForm}, {"\x00\x00\x00\x01\xc8\x01", api.ErrShort},
		{"\x00\x00\x00\x01\x01a", api.ErrShort}, {"\x00\x00\x00\x01\x01a\x80", api.ErrShort}, {"\x00\x00\x00\x01\x01a\x80\x00", api.ErrForm}, {"\x00\x00\x00\x01\x01a\x81\x00\x00", api.ErrForm}, {"\x00\x00\x00\x01\x01a" + strings.Repeat("\xff", 10), api.ErrForm},
		{"\x00\x00\x00\x01\x01a\x00", api.ErrShort}, {"\x00\x00\x00\x01\x01a\x00\x01", api.ErrShort}, {"\x00\x00\x00\x01\x01a\x00\x80\x00", api.ErrForm}, {"\x00\x00\x00\x01\x01a\x00\x80\x80\x04", api.ErrShort}, {"\x00\x00\x00\x02\x01a\x00\x00", api.ErrShort}, {"\x00\x00\x00\x02\x01a\x00\x00\x01b\x00", api.ErrShort},
		// Too many parents, or changes: as soon as that is read, whatever stands behind.
		{"\x11", api.ErrLong}, {"\x11\x80\x00", api.ErrLong}, {"\x11\x00", api.ErrLong}, {"\x11\x21", api.ErrLong}, {"\x11\x00\x00\x00\x00", api.ErrLong}, {"\x12" + a, api.ErrLong}, {"\x7f", api.ErrLong}, {"\x80\x01", api.ErrLong}, {"\x80\x80\x80\x80\x10", api.ErrLong}, {strings.Repeat("\xff", 9) + "\x01", api.ErrLong}, {strings.Repeat("\x80", 9) + "\x01", api.ErrLong}, {"\x90\x80\x80\x80\x80\x80\x80\x80\x80\x01", api.ErrLong}, {"\x91\x00", api.ErrForm},
		{"\x00\x00\x00\x65", api.ErrLong}, {"\x00\x00\x00\x65\x80\x00", api.ErrLong}, {"\x00\x00\x00\x65\x00\x00\x00", api.ErrLong}, {"\x00\x00\x00\x65\xc9\x01", api.ErrLong}, {"\x00\x00\x00\x80\x01", api.ErrLong}, {"\x00\x00\x00" + strings.Repeat("\xff", 9) + "\x01", api.ErrLong}, {"\x00\x00\x00\x81\x80\x80\x80\x80\x80\x80\x80\x80\x01\x01a\x00\x00", api.ErrLong}, {"\x00\x00\x00\xe5\x00", api.ErrForm}, {"\x01" + a + "\x00\x00\x65", api.ErrLong}, {"\x01\x00\x00\x00\x65", api.ErrLong},
		// Texts that are too long: ahead of whether so many bytes are left.
		{"\x01\x21", api.ErrLong}, {"\x01\x21" + a, api.ErrLong}, {"\x02" + a + "\x21", api.ErrLong}, {"\x01" + strings.Repeat("\xff", 9) + "\x01", api.ErrLong},
		{"\x00\x65", api.ErrLong}, {"\x00\x65" + note[:101] + "\x00\x00", api.ErrLong}, {"\x00\x64" + note[:100] + "\x00\x00", api.OK}, {"\x00\xe8\x07", api.ErrLong},
		{"\x00\x00\xe9\x07", api.ErrLong}, {"\x00\x00\xe9\x07" + note + "\x00", api.ErrLong}, {"\x00\x00\xe8\x07" + note[1:] + "\x00", api.OK},
		{"\x00\x00\x00\x01\xc9\x01", api.ErrLong}, {"\x00\x00\x00\x01\xc9\x01" + note[:201] + "\x00\x00", api.ErrLong}, {"\x00\x00\x00\x01\xc8\x01" + note[:200] + "\x00\x00", api.OK}, {"\x00\x00\x00\x01\x01a\x00\x81\x80\x04", api.ErrLong}, {"\x00\x00\x00\x01\x01a\x00\x81\x80\x04" + big, api.ErrLong}, {"\x00\x00\x00\x01\x01a\x00\x80\x80\x04" + big[1:], api.OK}, {"\x00\x00\x00\x02\x01a\x00\x00\xc9\x01", api.ErrLong}, {"\x00\x00\x00\x02\x01a\x00\x00\x01b\x00\x81\x80\x04", api.ErrLong},
		// Bytes that are left.
		{"\x00\x00\x00\x00\x00", api.ErrTail}, {"\x00\x00\x00\x00\x80", api.ErrTail}, {"\x01" + a + "\x00\x00\x00\x00", api.ErrTail}, {"\x00\x00\x00\x01\x01a\x00\x01bc", api.ErrTail}, {"\x00\x00\x00\x01\x01a\x01\x00\x01b\x01\x00", api.ErrTail}, {"\x00\x00\x00\x00" + big, api.ErrTail},
		// What was read isn't right.
		{"\x01\x00\x00\x00\x00", api.ErrForm}, {"\x01\x01a\x00\x00\x00", api.ErrForm}, {"\x01\x1f" + a[1:32] + "\x00\x00\x00", api.ErrForm}, {"\x02" + a + a + "\x00\x00\x00", api.ErrForm}, {"\x02" + b + a + "\x00\x00\x00", api.ErrForm}, {"\x02" + a + "\x01b\x00\x00\x00", api.ErrForm}, {"\x02" + a + b + "\x00\x00\x00", api.OK},
		{"\x00\x00\x00\x01\x00\x00\x00", api.ErrForm}, {"\x00\x00\x00\x01\x01/\x00\x00", api.ErrForm}, {"\x00\x00\x00\x01\x02..\x01\x00", api.ErrForm}, {"\x00\x00\x00\x02\x01a\x00\x00\x01a\x00\x00", api.ErrForm}, {"\x00\x00\x00\x02\x01a\x00\x00\x01a\x01\x00", api.ErrForm}, {"\x00\x00\x00\x02\x01b\x00\x00\x01a\x00\x00", api.ErrForm}, {"\x00\x00\x00\x02\x01a\x01\x00\x01b\x00\x00", api.OK},
		{"\x00\x00\x00\x01\x01a\x01\x01x", api.ErrForm}, {"\x00\x00\x00\x01\x01a\x01\x01\x00", api.ErrForm},
		// Neither 0 nor 1, where Gone is told: in the end, whatever else can be.
		{"\x00\x00\x00\x01\x01a\x02\x00", api.ErrForm}, {"\x00\x00\x00\x01\x01a\x02\x01x", api.ErrForm}, {"\x00\x00\x00\x01\x01a\x7f\x00", api.ErrForm}, {"\x00\x00\x00\x01\x01a\x80\x01\x00", api.ErrForm}, {"\x00\x00\x00\x01\x01a\x81\x01\x00", api.ErrForm}, {"\x00\x00\x00\x01\x01a\x80\x80\x80\x80\x10\x00", api.ErrForm}, {"\x00\x00\x00\x01\x01a\x81\x80\x80\x80\x10\x00", api.ErrForm}, {"\x00\x00\x00\x01\x01a\x80\x02\x00", api.ErrForm}, {"\x00\x00\x00\x01\x01a\x81\x02\x00", api.ErrForm},
		{"\x00\x00\x00\x01\x01a" + strings.Repeat("\x80", 9) + "\x01\x00", api.ErrForm}, {"\x00\x00\x00\x01\x01a" + strings.Repeat("\xff", 9) + "\x01\x00", api.ErrForm}, {"\x00\x00\x00\x02\x01a\x02\x00\x01b\x00\x00", api.ErrForm}, {"\x00\x00\x00\x02\x01a\x00\x00\x01b\x02\x00", api.ErrForm}, {"\x00\x00\x00\x02\x01a\x03\x00\x01b\x01\x00", api.ErrForm},
		{"\x00\x00\x00\x01\x01a\x02", api.ErrShort}, {"\x00\x00\x00\x01\x01a\x02\x05", api.ErrShort}, {"\x00\x00\x00\x01\x01a\x02\x81\x80\x04", api.ErrLong}, {"\x00\x00\x00\x01\x01a\x02\x00\x00", api.ErrTail}, {"\x00\x00\x00\x02\x01a\x02\x00\xc9\x01", api.ErrLong}, {"\x00\x00\x00\x02\x01a\x02\x00", api.ErrShort}, {"\x00\x00\x00\x01\x01a\x02\x80\x00", api.ErrForm},
		// Where it isn't right, and something else is wrong, that comes first, wherever it stands.
		{"\x01\x01a\x00\x00\x00\x00", api.ErrTail}, {"\x01\x01a\x00\x00", api.ErrShort}, {"\x01\x01a\x65", api.ErrLong}, {"\x02" + b + a + "\x00\x00", api.ErrShort}, {"\x02" + b + a + "\x00\x00\x65", api.ErrLong}, {"\x00\x00\x00\x01\x01/\x00\x00\x00", api.ErrTail}, {"\x00\x00\x00\x02\x01/\x00\x00", api.ErrShort}, {"\x00\x00\x00\x02\x01/\x00\x00\xc9\x01", api.ErrLong}, {"\x00\x00\x00\x01\x01a\x01\x01x\x00", api.ErrTail}, {"\x00\x00\x00\x01\x01a\x01\x02x", api.ErrShort},
		// The first one that is read fails, whatever stands behind.
		{"\x01\x21\x80\x00", api.ErrLong}, {"\x01\x80\x00\x21", api.ErrForm}, {"\x00\x65\x80\x00", api.ErrLong}, {"\x00\x80\x00\xe9\x07\x65", api.ErrForm}, {"\x00\x7f\x65\x65", api.ErrLong}, {"\x00\x64\x65\x65\x65", api.ErrShort}, {"\x00\x00\xe9\x07\x65", api.ErrLong}, {"\x01\x05\x65\x65", api.ErrShort}, {"\x00\x00\x05\x65", api.ErrShort},
	} {
		want, e := patchOf(x.b)
		if e != x.want {
			t.Fatalf("%.99q: the test's own reader tells %d", x.b, e)
		}
		checkDecode(t, x.b, want, e)
	}
}

// P12.2, P12.4: all short rows of bytes that matter, alone, and behind fronts of forms: the patch, or the first error; what is read has that form.
func TestDecodeAllShort(t *testing.T) {
	patches := 0
	a := "\x20" + string(id("a"))
	for front, most := range map[string]int{"": 7, "\x00\x00\x00": 7, "\x01" + a: 5, "\x01" + a + "\x01m\x00\x02": 6, "\x00\x00\x00\x02\x01a": 7} {
		for _, l := range lists(most, []byte{0, 1, 2, 'a', 'b', 0x81}) {
			if checkBytes(t, front+string(l)) == api.OK {
				patches++
			}
		}
	}
	if patches < 50 {
		t.Errorf("%d patches alone", patches)
	}
}

// P12.2: a form that is cut off at each place, that has something behind it, and that has one byte amiss at each place.
func TestDecodeSpoilt(t *testing.T) {
	long := strings.Repeat("x", 1000)
	for _, p := range []api.Patch{
		{}, on("a"), on("a", "b"), {Author: "me", Note: "why"}, of(put("a", "b"), drop("c")),
		{Parents: []api.Id{id("a"), id("b"), id("c")}, Author: "me", Note: long[:130], Changes: []api.Change{put("a", "x"), drop("a/b"), put("b", long[:200]), drop("c")}},
		{Parents: parents(16), Author: long[:100], Note: long, Changes: []api.Change{put(long[:200], "\x80\x81"), drop("z")}},
	} {
		form := formOf(p)
		// Of long forms some bytes alone, others at each place.
		step := 1 + len(form)/100
		for i := range form {
			checkDecode(t, form[:i], api.Patch{}, api.ErrShort)
			for x := i % step; x < 256; x += step {
				b := []byte(form)
				b[i] = byte(x)
				checkBytes(t, string(b))
			}
		}
		for x := range 256 {
			checkDecode(t, form+string([]byte{byte(x)}), api.Patch{}, api.ErrTail)
		}
		checkDecode(t, form+form, api.Patch{}, api.ErrTail)
		checkDecode(t, form, p, api.OK)
	}
}

// P12.2: as many parents, and changes, as may be, and one more; the last one alone wrong.
func TestDecodeMany(t *testing.T) {
	for n := 14; n < 20; n++ {
		p := api.Patch{Parents: parents(n), Changes: puts(many("f", 3, "x"))}
		if n <= 16 {
			checkDecode(t, formOf(p), p, api.OK)
		} else {
			checkDecode(t, formOf(p), api.Patch{}, api.ErrLong)
		}
	}
	for n := 98; n < 130; n++ {
		p := api.Patch{Changes: puts(many("f", n, "x"))}
		if n <= 100 {
			checkDecode(t, formOf(p), p, api.OK)
		} else {
			checkDecode(t, formOf(p), api.Patch{}, api.ErrLong)
		}
	}
	for _, last := range []api.Change{put("a", ""), drop("f10098"), put("g/", ""), drop(""), {Path: "g", Gone: true, Text: "x"}} {
		checkDecode(t, formOf(api.Patch{Changes: append(puts(many("f", 99, "x")), last)}), api.Patch{}, api.ErrForm)
	}
	for _, last := range []api.Id{"", "x", id("a"), parents(15)[14], parents(15)[14][:31]} {
		checkDecode(t, formOf(api.Patch{Parents: append(parents(15), last)}), api.Patch{}, api.ErrForm)
	}
}

// sorted are the files of a map, by rising paths.
func sorted(m map[string]string) []api.File {
	var out []api.File
	for _, p := range slices.Sorted(maps.Keys(m)) {
		out = append(out, api.File{Path: p, Text: m[p]})
	}
	return out
}

// played is what the document tells of a tree, with changes.
func played(t []api.File, l []api.Change) []api.File {
	m := map[string]string{}
	for _, f := range t {
		m[f.Path] = f.Text
	}
	for _, c := range l {
		_, there := m[c.Path]
		switch {
		case c.Gone:
			delete(m, c.Path)
		case tree.Path(c.Path) && len(c.Text) <= 65536 && (there || len(m) < 1000):
			m[c.Path] = c.Text
		}
	}
	return sorted(m)
}

// between is what the document tells of what is between two trees.
func between(a, b []api.File) []api.Change {
	m := map[string]api.Change{}
	for _, f := range a {
		m[f.Path] = drop(f.Path)
	}
	for _, f := range b {
		m[f.Path] = put(f.Path, f.Text)
	}
	for _, f := range a {
		if slices.Contains(b, f) {
			delete(m, f.Path)
		}
	}
	var out []api.Change
	for _, p := range slices.Sorted(maps.Keys(m)) {
		out = append(out, m[p])
	}
	return out
}

// checkPlay holds a tree, with changes, against what is wanted.
func checkPlay(t *testing.T, l []api.File, c []api.Change, want []api.File) {
	t.Helper()
	if got := patch.Play(l, c); !slices.Equal(got, want) || !tree.Right(got) {
		t.Fatalf("%.299q, %.299v: %.299q, not %.299q", l, c, got, want)
	}
}

// checkBetween holds what is between two trees against what is wanted; and, played, against P12.4.
func checkBetween(t *testing.T, a, b []api.File, want []api.Change) {
	t.Helper()
	l := patch.Between(a, b)
	if !slices.Equal(l, want) {
		t.Fatalf("%.299q to %.299q: %.299v, not %.299v", a, b, l, want)
	}
	checkPlay(t, a, l, b)
}

// P12.3: trees, with changes, written out.
func TestPlayKnown(t *testing.T) {
	abc := files("a", "1", "b", "2", "c", "3")
	for _, x := range []struct {
		t    []api.File
		l    []api.Change
		want []api.File
	}{
		{nil, nil, nil}, {abc, nil, abc}, {nil, []api.Change{put("a", "x")}, files("a", "x")}, {nil, []api.Change{put("a", "")}, files("a", "")},
		// Put ahead, between, behind, and in place.
		{abc, []api.Change{put("A", "x")}, files("A", "x", "a", "1", "b", "2", "c", "3")}, {abc, []api.Change{put("a/b", "x")}, files("a", "1", "a/b", "x", "b", "2", "c", "3")}, {abc, []api.Change{put("d", "")}, files("a", "1", "b", "2", "c", "3", "d", "")}, {abc, []api.Change{put("b", "x")}, files("a", "1", "b", "x", "c", "3")}, {abc, []api.Change{put("b", "")}, files("a", "1", "b", "", "c", "3")}, {abc, []api.Change{put("b", "2")}, abc},
		// Gone, and what isn't there.
		{abc, []api.Change{drop("a")}, abc[1:]}, {abc, []api.Change{drop("b")}, files("a", "1", "c", "3")}, {abc, []api.Change{drop("c")}, abc[:2]}, {abc, []api.Change{drop("d")}, abc}, {abc, []api.Change{drop("a/b")}, abc}, {abc, []api.Change{drop("a"), drop("b"), drop("c")}, nil}, {nil, []api.Change{drop("a")}, nil}, {files("a", "1", "a/b", "2"), []api.Change{drop("a")}, files("a/b", "2")}, {files("a", ""), []api.Change{drop("a")}, nil},
		// Several.
		{abc, []api.Change{put("a", "x"), drop("b"), put("d", "y")}, files("a", "x", "c", "3", "d", "y")}, {abc, []api.Change{drop("a"), put("a/b", "x"), drop("b"), put("c", "")}, files("a/b", "x", "c", "")},
	} {
		checkPlay(t, x.t, x.l, x.want)
	}
}

// P12.3: what is between two trees, written out.
func TestBetweenKnown(t *testing.T) {
	abc := files("a", "1", "b", "2", "c", "3")
	for _, x := range []struct {
		a, b []api.File
		want []api.Change
	}{
		{nil, nil, nil}, {abc, abc, nil}, {nil, abc, []api.Change{put("a", "1"), put("b", "2"), put("c", "3")}}, {abc, nil, []api.Change{drop("a"), drop("b"), drop("c")}},
		{abc, files("a", "1", "b", "x", "c", "3"), []api.Change{put("b", "x")}}, {abc, abc[1:], []api.Change{drop("a")}}, {abc, abc[:2], []api.Change{drop("c")}}, {abc[1:], abc, []api.Change{put("a", "1")}}, {abc[:2], abc, []api.Change{put("c", "3")}}, {abc, files("a", "1", "c", "3"), []api.Change{drop("b")}},
		// A file with an empty text isn't nothing.
		{nil, files("a", ""), []api.Change{put("a", "")}}, {files("a", ""), nil, []api.Change{drop("a")}}, {files("a", "1"), files("a", ""), []api.Change{put("a", "")}}, {files("a", ""), files("a", "1"), []api.Change{put("a", "1")}}, {files("a", ""), files("a", ""), nil},
		// By turns, rising byte by byte.
		{files("a", "1", "c", "1", "e", "1"), files("b", "2", "d", "2", "f", "2"), []api.Change{drop("a"), put("b", "2"), drop("c"), put("d", "2"), drop("e"), put("f", "2")}}, {files("Z", "1", "a/b", "1", "\xff", "1"), files("a", "2", "a-b", "2", "a0", "2"), []api.Change{drop("Z"), put("a", "2"), put("a-b", "2"), drop("a/b"), put("a0", "2"), drop("\xff")}}, {files("a", "1", "a/b", "1"), files("a/b", "1"), []api.Change{drop("a")}}, {files("a", "1"), files("a/b", "1"), []api.Change{drop("a"), put("a/b", "1")}},
		// The same text at another path.
		{files("a", "1"), files("b", "1"), []api.Change{drop("a"), put("b", "1")}}, {files("a", "1", "b", "2"), files("a", "2", "b", "1"), []api.Change{put("a", "2"), put("b", "1")}},
	} {
		checkBetween(t, x.a, x.b, x.want)
	}
}

// trees are all with these paths, each without a file, or with one of these texts.
func trees(paths []string, texts ...string) [][]api.File {
	out := [][]api.File{nil}
	for _, p := range paths {
		for _, l := range out[:len(out):len(out)] {
			for _, s := range texts {
				out = append(out, append(slices.Clone(l), api.File{Path: p, Text: s}))
			}
		}
	}
	return out
}

// P12.3, P12.4: all small trees: what is between any two, and played.
func TestBetweenAll(t *testing.T) {
	all := trees([]string{"a", "a/b", "b", "c"}, "", "1", "2")
	if len(all) != 256 {
		t.Fatalf("%d trees", len(all))
	}
	for _, a := range all {
		for _, b := range all {
			checkBetween(t, a, b, between(a, b))
			if l := patch.Between(a, b); !patch.Right(api.Patch{Changes: l}) {
				t.Fatalf("%q to %q: %v are no changes of a patch", a, b, l)
			}
		}
	}
}

// P12.3: all small trees, with all changes of a patch on the same paths, and others.
func TestPlayAll(t *testing.T) {
	paths := []string{"A", "a", "b", "d"}
	changes := [][]api.Change{nil}
	for _, p := range paths {
		for _, l := range changes[:len(changes):len(changes)] {
			for _, c := range []api.Change{put(p, ""), put(p, "1"), put(p, "x"), drop(p)} {
				changes = append(changes, append(slices.Clone(l), c))
			}
		}
	}
	for _, l := range trees([]string{"a", "a/b", "b", "c"}, "", "1") {
		for _, c := range changes {
			checkPlay(t, l, c, played(l, c))
		}
	}
}

// some are numbers that are made by a rule, each unlike the last one.
type some uint32

// below is a number.
func (s *some) below(n int) int {
	*s = *s*1664525 + 1013904223
	return int(*s>>16) % n
}

// files are up to so many, with paths and texts made by a rule.
func (s *some) files(most int) []api.File {
	m := map[string]string{}
	for range s.below(most + 1) {
		m[strconv.Itoa(s.below(most*2))] = strconv.Itoa(s.below(3))
	}
	return sorted(m)
}

// P12.3, P12.4: longer trees, and patch upon patch.
func TestLonger(t *testing.T) {
	s := some(12)
	var last []api.File
	for i := range 600 {
		next := s.files(1 + i)
		checkBetween(t, last, next, between(last, next))
		l := patch.Between(last, next)
		// Another tree, with the same changes.
		other := s.files(1 + i)
		checkPlay(t, other, l, played(other, l))
		last = next
	}
}

// P12.3: changes that can't be put are passed over, and the others are done; in order, as the tree is by then.
func TestPassedOver(t *testing.T) {
	abc := files("a", "1", "b", "2", "c", "3")
	big := strings.Repeat("t", 65537)
	checkPlay(t, abc, []api.Change{put("..", "x")}, abc)
	checkPlay(t, abc, []api.Change{put("", "x"), put("b", "x"), put("c/", "x")}, files("a", "1", "b", "x", "c", "3"))
	checkPlay(t, abc, []api.Change{put("a", "x"), put("b", big), put("c", "x"), put("d", big)}, files("a", "x", "b", "2", "c", "x"))
	checkPlay(t, abc, []api.Change{put("b", big[1:])}, files("a", "1", "b", big[1:], "c", "3"))
	checkPlay(t, abc, []api.Change{drop(".."), drop(""), drop("b"), drop(big)}, files("a", "1", "c", "3"))

	full := many("f", 1000, "x")
	with := func(l []api.File, more ...api.File) []api.File { return slices.Concat(l, more) }
	z, e := files("z", "y"), files("e", "y")
	checkPlay(t, full, []api.Change{put("z", "y")}, full)
	checkPlay(t, full, []api.Change{put("e", "y"), put("f10000", "y"), put("z", "y")}, with(files("f10000", "y"), full[1:]...))
	checkPlay(t, full, []api.Change{drop("f10000"), put("z", "y")}, with(full[1:], z...))
	checkPlay(t, full, []api.Change{put("e", "y"), drop("f10000")}, full[1:])
	checkPlay(t, full, []api.Change{put("e", "y"), drop("f10000"), put("z", "y")}, with(full[1:], z...))
	checkPlay(t, full[1:], []api.Change{put("e", "y"), put("z", "y")}, with(e, full[1:]...))
	checkPlay(t, full[2:], []api.Change{put("e", "y"), put("z", "y")}, with(with(e, full[2:]...), z...))

	// What is between may hold one that is passed over: then, played, it is another tree.
	if l := patch.Between(full, with(e, full[1:]...)); !slices.Equal(l, []api.Change{put("e", "y"), drop("f10000")}) {
		t.Errorf("%v", l)
	}
	checkBetween(t, full, with(full[1:], z...), []api.Change{drop("f10000"), put("z", "y")})
}

// P12.3, R1: the greatest trees, with more changes than a patch has.
func TestGreatest(t *testing.T) {
	text := strings.Repeat("t", 65535)
	a, b := many(strings.Repeat("p", 194), 1000, text+"a"), many(strings.Repeat("p", 194), 1000, text+"b")
	checkBetween(t, a, b, puts(b))
	checkBetween(t, a, a, nil)
	checkBetween(t, nil, b, puts(b))
	if l := patch.Between(a, nil); len(l) != 1000 || l[999] != drop(a[999].Path) || len(patch.Play(a, l)) != 0 {
		t.Errorf("%d changes", len(l))
	}
	if l := patch.Between(many("a", 1000, ""), many("b", 1000, "")); len(l) != 2000 || !l[999].Gone || l[1000].Gone {
		t.Errorf("%d changes", len(l))
	}
}

// R1: of trees and changes that aren't right, each call tells something.
func TestNoneFails(t *testing.T) {
	long := strings.Repeat("x", 70000)
	wrong := [][]api.File{nil, files("", ""), files("b", "", "a", ""), files("a", "x", "a", "y", "a", "z"), files(long, long), files("..", "", "\x00", "", "/", ""), many("f", 1500, "x"), slices.Concat(many("f", 30, ""), many("e", 30, "1")), make([]api.File, 1200)}
	changes := [][]api.Change{nil, make([]api.Change, 300), {drop("b"), drop("a"), put("b", "x"), put("a", "x")}, {{Path: "a", Gone: true, Text: "x"}}, {put("a", "x"), drop("a"), put("a", "y")}, {put(long, long), drop(long)}, puts(many("f", 1500, "y"))}
	for _, a := range wrong {
		for _, b := range wrong {
			patch.Play(a, patch.Between(a, b))
		}
		for _, l := range changes {
			patch.Play(a, l)
		}
	}
	// A right tree stays one, whatever the changes are.
	for _, a := range [][]api.File{nil, files("a", "1", "b", "2"), many("f", 1000, "x")} {
		for _, l := range changes {
			checkPlay(t, a, l, played(a, l))
		}
	}
}

// R4: no list and an empty one are the same.
func TestNil(t *testing.T) {
	empty := api.Patch{Parents: []api.Id{}, Changes: []api.Change{}}
	check(t, empty, true)
	if patch.Name(empty) != patch.Name(api.Patch{}) {
		t.Error("an empty list has another name")
	}
	noFiles, noChanges := [][]api.File{nil, {}, many("f", 1, "")[:0]}, [][]api.Change{nil, {}, make([]api.Change, 1)[:0]}
	for _, x := range noFiles {
		for _, y := range noFiles {
			checkBetween(t, x, y, nil)
		}
		for _, l := range noChanges {
			checkPlay(t, x, l, nil)
			checkPlay(t, files("a", "1"), l, files("a", "1"))
		}
		checkBetween(t, x, files("a", ""), []api.Change{put("a", "")})
		checkBetween(t, files("a", ""), x, []api.Change{drop("a")})
	}
	for _, b := range [][]byte{nil, {}} {
		if p, e := patch.Decode(b); !none(p) || e != api.ErrShort {
			t.Errorf("%v, %d", p, e)
		}
	}
}

// R5: what is handed in is not changed, nor is what stands behind it.
func TestHandedIn(t *testing.T) {
	whole := func() ([]api.Id, []api.Change, []api.File) {
		return parents(5), []api.Change{put("a", "x"), drop("b"), put("c", "y"), drop("f10001"), put("f10002", "z"), put("g", "")}, many("f", 6, "t")
	}
	p, c, f := whole()
	wantP, wantC, wantF := whole()
	for n := range 5 {
		q := api.Patch{Parents: p[:n], Author: "me", Note: "why", Changes: c[:n]}
		patch.Right(q)
		patch.Encode(q)
		patch.Name(q)
		for k := range 6 {
			patch.Play(f[:k], c[:n])
			patch.Play(f[:k], c[n:])
			patch.Between(f[:k], f[:n])
			patch.Between(f[k:], f[n:])
		}
	}
	if !slices.Equal(p, wantP) || !slices.Equal(c, wantC) || !slices.Equal(f, wantF) {
		t.Errorf("what was handed in was changed: %q, %v, %q", p, c, f)
	}
	b := []byte(formOf(api.Patch{Parents: p, Changes: c}) + "behind")
	before := bytes.Clone(b)
	for n := range b {
		patch.Decode(b[:n])
	}
	if !bytes.Equal(b, before) {
		t.Errorf("what was handed in was changed: %q", b)
	}
}

// R5: what is answered is memory of its own: who changes it, or what was handed in, changes nothing else.
func TestOwnMemory(t *testing.T) {
	for _, c := range [][]api.Change{nil, {drop("z")}, {put("..", "")}, {put("f10001", "x")}, {put("f10001", "new")}, {put("a", ""), drop("f10002")}, {drop("f10003")}, {put("z", "")}} {
		whole := many("f", 6, "x")
		l := whole[:4] // with room behind it
		first, second, want := patch.Play(l, c), patch.Play(l, c), slices.Clone(patch.Play(l, c))
		clear(second[:cap(second)])
		if !slices.Equal(whole, many("f", 6, "x")) {
			t.Errorf("%v: what was handed in was changed: %q", c, whole)
		}
		clear(whole)
		if !slices.Equal(first, want) {
			t.Errorf("%v: what was answered was changed: %q", c, first)
		}
	}
	a, b := files("a", "1", "b", "2", "c", "3"), files("b", "x", "c", "3", "d", "4")
	first, second := patch.Between(a, b), patch.Between(a, b)
	clear(second[:cap(second)])
	clear(a)
	clear(b)
	if !slices.Equal(first, []api.Change{drop("a"), put("b", "x"), put("d", "4")}) {
		t.Errorf("what was answered was changed: %v", first)
	}
}

// R5: forms, and patches that were read, are memory of their own.
func TestOwnForms(t *testing.T) {
	make := func() api.Patch {
		return api.Patch{Parents: parents(3), Author: "me", Note: "why", Changes: []api.Change{put("a", "x"), drop("b")}}
	}
	p := make()
	first, _ := patch.Encode(p)
	second, _ := patch.Encode(p)
	clear(second[:cap(second)])
	clear(p.Parents)
	clear(p.Changes)
	if string(first) != formOf(make()) {
		t.Errorf("a form was changed: %q", first)
	}
	one, _ := patch.Decode(first)
	other, _ := patch.Decode(first)
	clear(other.Parents[:cap(other.Parents)])
	clear(other.Changes[:cap(other.Changes)])
	clear(first)
	if !same(one, make()) {
		t.Errorf("a patch that was read was changed: %v", one)
	}
}

// R6: asked again, by several at once, the same is told.
func TestTogether(t *testing.T) {
	a, b := files("a", "1", "b", "2", "c", "3"), files("b", "x", "c", "3", "d", "4")
	p := api.Patch{Parents: parents(3), Author: "me", Note: "why", Changes: between(a, b)}
	form := formOf(p)
	name := nameOf(form)
	var all sync.WaitGroup
	for range 8 {
		all.Go(func() {
			for range 200 {
				told, _ := patch.Encode(p)
				q, _ := patch.Decode(told)
				if string(told) != form || patch.Name(p) != name || !same(p, q) || !patch.Right(p) || !slices.Equal(patch.Between(a, b), p.Changes) || !slices.Equal(patch.Play(a, p.Changes), b) {
					t.Error("something else, when several ask")
				}
			}
		})
	}
	all.Wait()
}
