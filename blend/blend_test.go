package blend_test

import (
	"fmt"
	"slices"
	"strconv"
	"strings"
	"sync"
	"testing"

	"grapevine/api"
	"grapevine/blend"
	"grapevine/merge"
	"grapevine/tree"
)

// files are some, of a path and a text each.
func files(l ...string) []api.File {
	var out []api.File
	for i := 0; i+1 < len(l); i += 2 {
		out = append(out, api.File{Path: l[i], Text: l[i+1]})
	}
	return out
}

// many are so many files with rising paths that begin alike, and one text.
func many(begin string, n int, text string) []api.File {
	var out []api.File
	for i := range n {
		out = append(out, api.File{Path: begin + strconv.Itoa(10000+i), Text: text})
	}
	return out
}

// has is what a tree has at a path: one text, or none.
func has(t []api.File, path string) []string {
	for _, f := range t {
		if f.Path == path {
			return []string{f.Text}
		}
	}
	return nil
}

// greater is the greater one of two texts, byte by byte.
func greater(a, b string) string {
	for i := range min(len(a), len(b)) {
		if a[i] != b[i] {
			if a[i] > b[i] {
				return a
			}
			return b
		}
	}
	if len(a) > len(b) {
		return a
	}
	return b
}

// toldAt is what the document tells of a path: one text, or none, and whether it clashes.
func toldAt(o, a, b []string) ([]string, bool) {
	if slices.Equal(a, b) {
		return a, false
	}
	if slices.Equal(b, o) {
		return a, false
	}
	if slices.Equal(a, o) {
		return b, false
	}
	if len(a)+len(b) == 1 {
		return slices.Concat(a, b), true
	}
	text, n := merge.Text(strings.Join(o, ""), a[0], b[0])
	if len(text) > 65536 {
		return []string{greater(a[0], b[0])}, true
	}
	return []string{text}, n != 0
}

// told is what the document tells of three trees.
func told(o, a, b []api.File) ([]api.File, []string) {
	var paths []string
	for _, f := range slices.Concat(a, b) {
		paths = append(paths, f.Path)
	}
	slices.Sort(paths)
	var out []api.File
	var clashing []string
	for _, p := range slices.Compact(paths) {
		text, clashes := toldAt(has(o, p), has(a, p), has(b, p))
		for _, s := range text {
			out = append(out, api.File{Path: p, Text: s})
		}
		if clashes {
			clashing = append(clashing, p)
		}
	}
	return out[:min(len(out), 1000)], clashing
}

// front is how many files a tree has, and the first ones of them, to be shown.
func front(t []api.File) string {
	return fmt.Sprintf("%d files %.99q", len(t), t[:min(len(t), 9)])
}

// check holds three trees, together, against what is wanted; and, with the sides changed, against P11.2.
func check(t *testing.T, o, a, b, want []api.File, clashing []string) {
	t.Helper()
	l, c := blend.Trees(o, a, b)
	if !slices.Equal(l, want) || !slices.Equal(c, clashing) {
		t.Fatalf("%s, %s, %s: %s, %d clash, not %s, %d", front(o), front(a), front(b), front(l), len(c), front(want), len(clashing))
	}
	if !tree.Right(l) {
		t.Fatalf("%s, %s, %s: %s isn't right", front(o), front(a), front(b), front(l))
	}
	m, d := blend.Trees(o, b, a)
	if !slices.Equal(c, d) || len(c) == 0 && !slices.Equal(l, m) {
		t.Fatalf("%s, %s, %s: %s, %d clash; with the sides changed %s, %d", front(o), front(a), front(b), front(l), len(c), front(m), len(d))
	}
}

// checkTold holds three trees, together, against the document's words.
func checkTold(t *testing.T, o, a, b []api.File) {
	t.Helper()
	want, clashing := told(o, a, b)
	check(t, o, a, b, want, clashing)
}

// P11.1: trees written out.
func TestKnown(t *testing.T) {
	const marks = "<<<<<<<\nA\n|||||||\no\n=======\nB\n>>>>>>>\n"
	for _, x := range []struct {
		o, a, b, want []api.File
		clashing      string
	}{
		// The document's example, and none at all.
		{nil, files("x", "1"), files("y", "2"), files("x", "1", "y", "2"), ""}, {nil, nil, nil, nil, ""}, {files("x", "1"), nil, nil, nil, ""},
		// The same on both sides, whatever was there.
		{nil, files("x", "1"), files("x", "1"), files("x", "1"), ""}, {files("x", "1"), files("x", "1"), files("x", "1"), files("x", "1"), ""}, {files("x", "1"), files("x", "2"), files("x", "2"), files("x", "2"), ""}, {files("x", "1"), files("x", ""), files("x", ""), files("x", ""), ""},
		// One side alone changed it, made it, took it away.
		{files("x", "1"), files("x", "2"), files("x", "1"), files("x", "2"), ""}, {files("x", "1"), files("x", "1"), files("x", "2"), files("x", "2"), ""}, {nil, files("x", "1"), nil, files("x", "1"), ""}, {nil, nil, files("x", "1"), files("x", "1"), ""}, {files("x", "1"), nil, files("x", "1"), nil, ""}, {files("x", "1"), files("x", "1"), nil, nil, ""},
		// A file with an empty text isn't nothing.
		{nil, files("x", ""), nil, files("x", ""), ""}, {nil, nil, files("x", ""), files("x", ""), ""}, {files("x", ""), nil, files("x", ""), nil, ""}, {files("x", ""), files("x", ""), nil, nil, ""}, {files("x", ""), files("x", "1"), nil, files("x", "1"), "x"}, {files("x", "1"), files("x", ""), nil, files("x", ""), "x"}, {files("x", "1"), nil, files("x", ""), files("x", ""), "x"}, {files("x", ""), files("x", ""), files("x", ""), files("x", ""), ""}, {nil, files("x", ""), files("x", ""), files("x", ""), ""},
		// Both made it: one of them empty, as o's text is taken to be then.
		{nil, files("x", ""), files("x", "1"), files("x", "1"), ""}, {nil, files("x", "1"), files("x", ""), files("x", "1"), ""},
		// One side took it away, the other one changed it.
		{files("x", "1"), nil, files("x", "2"), files("x", "2"), "x"}, {files("x", "1"), files("x", "2"), nil, files("x", "2"), "x"}, {files("x", "1"), nil, files("x", "\x00"), files("x", "\x00"), "x"},
		// Both changed it, with marks where they clash.
		{files("x", "o\n"), files("x", "A\n"), files("x", "B\n"), files("x", marks), "x"}, {files("x", "o"), files("x", "A"), files("x", "B"), files("x", marks), "x"}, {files("x", "1\n2\n3\n"), files("x", "A\n2\n3\n"), files("x", "1\n2\nB\n"), files("x", "A\n2\nB\n"), ""}, {nil, files("x", "A\n"), files("x", "B\n"), files("x", strings.Replace(marks, "o\n", "", 1)), "x"}, {files("x", "o\n"), files("x", ""), files("x", "B\n"), files("x", strings.Replace(marks, "A\n", "", 1)), "x"},
		// A text with a byte 0: the greater one.
		{files("x", "\x00"), files("x", "1"), files("x", "2"), files("x", "2"), "x"}, {files("x", "o"), files("x", "\x001"), files("x", "\x00"), files("x", "\x001"), "x"}, {nil, files("x", "\xff"), files("x", "\x00z"), files("x", "\xff"), "x"},
		// What was taken to another path is taken away at one, and made at the other one.
		{files("x", "1\n"), files("y", "1\n"), files("x", "2\n"), files("x", "2\n", "y", "1\n"), "x"}, {files("x", "1\n"), files("y", "1\n"), files("z", "1\n"), files("y", "1\n", "z", "1\n"), ""},
		// A file, and another one below the same name: each path by itself.
		{nil, files("x", "1"), files("x/y", "2"), files("x", "1", "x/y", "2"), ""},
		// Several paths, rising byte by byte.
		{files("a", "0", "b", "0", "c", "0"), files("a", "1", "c", "0"), files("b", "0", "c", "1", "d", "0"), files("a", "1", "c", "1", "d", "0"), "a"},
		{nil, files("a", "1", "c", "1", "e", "1"), files("b", "2", "d", "2", "f", "2"), files("a", "1", "b", "2", "c", "1", "d", "2", "e", "1", "f", "2"), ""},
		{nil, files("Z", "1", "a/b", "1", "\xff", "1"), files("a", "2", "a-b", "2", "a0", "2", "z", "2"), files("Z", "1", "a", "2", "a-b", "2", "a/b", "1", "a0", "2", "z", "2", "\xff", "1"), ""},
		{files("a", "1", "b", "1", "c", "1", "d", "1"), files("a", "2", "c", "2"), files("b", "3", "d", "3"), files("a", "2", "b", "3", "c", "2", "d", "3"), "a b c d"},
		{files("a", "1", "b", "1", "c", "1"), files("a", "2", "b", "1", "c", "\x00"), files("a", "\x00", "b", "1", "c", "2"), files("a", "2", "b", "1", "c", "2"), "a c"},
		{files("a", "1", "b", "2", "c", "3"), files("d", "4"), files("a", "1", "b", "2", "c", "3"), files("d", "4"), ""},
	} {
		check(t, x.o, x.a, x.b, x.want, strings.Fields(x.clashing))
	}
}

// states are all that three trees may have at a path, out of some texts, and nothing; each as three trees of one file, or none.
func states(path string, texts ...string) [][3][]api.File {
	one := [][]api.File{nil}
	for _, s := range texts {
		one = append(one, files(path, s))
	}
	var out [][3][]api.File
	for _, o := range one {
		for _, a := range one {
			for _, b := range one {
				out = append(out, [3][]api.File{o, a, b})
			}
		}
	}
	return out
}

// P11.1, P11.2: all that three trees may have at a path, out of texts that matter.
func TestAllAtOnePath(t *testing.T) {
	clashes := 0
	for _, x := range states("x", "", "\n", "1", "1\n", "2\n", "1\n2\n", "1\n2\n3\n", "0\n2\n3\n", "1\n2\n4\n", "0\n2\n4\n", "1\n\n3\n", "\x00", "\x001\n", "\xff", "<<<<<<<\n", "1\r\n") {
		checkTold(t, x[0], x[1], x[2])
		if _, c := blend.Trees(x[0], x[1], x[2]); len(c) > 0 {
			clashes++
		}
	}
	if clashes < 1000 {
		t.Errorf("%d clashes alone", clashes)
	}
}

// P11.1, P11.2: all that three trees may have at three paths, of which one begins with another one.
func TestAllAtThreePaths(t *testing.T) {
	first, second, third := states("a", "", "1"), states("a/b", "1", "2"), states("b", "", "\x00")
	for _, x := range first {
		for _, y := range second {
			for _, z := range third {
				checkTold(t, slices.Concat(x[0], y[0], z[0]), slices.Concat(x[1], y[1], z[1]), slices.Concat(x[2], y[2], z[2]))
			}
		}
	}
}

// some are numbers made by a rule, each below most.
func some(seed uint64, n int, most uint64) []int {
	var out []int
	for range n {
		seed = seed*6364136223846793005 + 1442695040888963407
		out = append(out, int((seed>>33)%most))
	}
	return out
}

// P11.1, P11.2: trees of more files, at paths made by a rule.
func TestLonger(t *testing.T) {
	texts := []string{"", "1\n2\n3\n4\n", "0\n2\n3\n4\n", "1\n2\n3\n5\n", "1\n2\n6\n7\n", "\x00", "8"}
	for seed := range 60 {
		var sides [3][]api.File
		for side := range sides {
			picks := some(uint64(seed*3+side), 200, 12)
			for i, f := range many("f", 200, "") {
				// Beyond the texts there is nothing.
				if picks[i] < len(texts) {
					f.Text = texts[picks[i]]
					sides[side] = append(sides[side], f)
				}
			}
		}
		checkTold(t, sides[0], sides[1], sides[2])
	}
}

// P11.2: what one side alone changed is taken, whichever it is, also where all is taken away, or made.
func TestOneSide(t *testing.T) {
	for _, o := range [][]api.File{nil, files("a", "1"), files("a", "", "b", "2", "c", "\x00"), many("f", 1000, "x")} {
		for _, x := range [][]api.File{nil, files("a", "1"), files("a", "2"), files("b", "2", "d", ""), files("c", "\x00\x00"), many("e", 1000, "y"), many("f", 1000, "z")} {
			check(t, o, x, o, x, nil)
			check(t, o, o, x, x, nil)
			check(t, o, x, x, x, nil)
		}
	}
}

// P11.1: together the text is as long as may be, or longer by a byte: then it clashes, and is the greater one, even where no line does.
func TestTextTooLong(t *testing.T) {
	const middle = "middle\n"
	for _, more := range []int{0, 1, 2, 1000, 32000} {
		front := strings.Repeat("f", 32767) + "\n"
		end := strings.Repeat("e", 65536-len(front)-len(middle)-1+more) + "\n"
		o, a, b := files("x", middle), files("x", front+middle), files("x", middle+end)
		if more == 0 {
			check(t, o, a, b, files("x", front+middle+end), nil)
			continue
		}
		check(t, o, a, b, files("x", middle+end), []string{"x"})
		check(t, o, b, a, files("x", middle+end), []string{"x"})
	}
}

// P11.1: together the text, with marks, is as long as may be, or longer: it clashes, and is the greater one, byte by byte.
func TestMarksTooLong(t *testing.T) {
	room := 65536 - len(merge.Ours+merge.Base+merge.Middle+merge.Theirs)
	for _, more := range []int{0, 1, 1000} {
		for _, x := range []struct{ a, b, want string }{{"a", "b", "b"}, {"b", "a", "b"}, {"z", "\x80", "\x80"}, {"\xff", "z", "\xff"}, {"aa", "a", "aa"}, {"a", "aa", "aa"}} {
			// The first one is closed, by one byte more; the second one is closed already.
			a := x.a + strings.Repeat("-", 30000)
			b := x.b + strings.Repeat("-", room-len(a)-len(x.b)-2+more) + "\n"
			want := merge.Ours + a + "\n" + merge.Base + merge.Middle + b + merge.Theirs
			if more > 0 {
				want = greater(a, b)
				if !strings.HasPrefix(want, x.want) {
					t.Fatalf("the test's own text begins with %.9q", want)
				}
			}
			check(t, nil, files("x", a), files("x", b), files("x", want), []string{"x"})
		}
	}
	// The greatest texts: they differ in the last byte alone, or one lacks it.
	long := strings.Repeat("t", 65535)
	for _, x := range [][3]string{{long + "a", long + "b", long + "b"}, {long + "b", long + "a", long + "b"}, {long, long + "\x01", long + "\x01"}, {long + "\x01", long, long + "\x01"}, {long + "\x00", long, long + "\x00"}} {
		check(t, nil, files("x", x[0]), files("x", x[1]), files("x", x[2]), []string{"x"})
		check(t, files("x", "o"), files("x", x[0]), files("x", x[1]), files("x", x[2]), []string{"x"})
		check(t, files("x", x[0]), files("x", x[0]), files("x", x[1]), files("x", x[1]), nil)
		check(t, files("x", "o"), files("x", x[0]), nil, files("x", x[0]), []string{"x"})
	}
}

// P11.1: of more files than may be the first ones by their paths; those left out clash, too.
func TestFilesTooMany(t *testing.T) {
	e, f := many("e", 600, "x"), many("f", 600, "y")
	check(t, nil, e[:400], f, slices.Concat(e[:400], f), nil)
	check(t, nil, e[:401], f, slices.Concat(e[:401], f[:599]), nil)
	check(t, nil, e, f, slices.Concat(e, f[:400]), nil)
	check(t, nil, f, e, slices.Concat(e, f[:400]), nil)
	check(t, nil, many("a", 1000, "x"), many("b", 1000, "y"), many("a", 1000, "x"), nil)
	check(t, nil, many("b", 1000, "x"), many("a", 1000, "y"), many("a", 1000, "y"), nil)

	// Of the last one both sides made something, and one more stands on one side alone.
	first := many("e", 1000, "x")
	o, a := slices.Concat(files("z", "o")), slices.Concat(first[:999], files("z", "A"))
	check(t, o, a, files("z", "B"), slices.Concat(first[:999], files("z", "<<<<<<<\nA\n|||||||\no\n=======\nB\n>>>>>>>\n")), []string{"z"})
	check(t, o, a, files("f", "", "z", "B"), slices.Concat(first[:999], files("f", "")), []string{"z"})
	check(t, o, a, files("f", ""), slices.Concat(first[:999], files("f", "")), []string{"z"})
	check(t, files("z", "A"), a, files("f", ""), slices.Concat(first[:999], files("f", "")), nil)
	check(t, nil, first, files("a", "", "z", "B"), slices.Concat(files("a", ""), first[:999]), nil)

	// Many that are left out clash: those that both sides made, or that one side changed, and the other one took away.
	var paths []string
	for _, f := range f {
		paths = append(paths, f.Path)
	}
	full := slices.Concat(many("d", 600, ""), e[:400])
	check(t, nil, slices.Concat(e[:400], f), slices.Concat(many("d", 600, ""), many("f", 300, "\x00")), full, paths[:300])
	check(t, many("f", 600, "o"), slices.Concat(e[:400], f), many("d", 600, ""), full, paths)
}

// P11.1: files that were taken away don't count.
func TestFilesTakenAway(t *testing.T) {
	o := many("e", 1000, "x")
	other := many("f", 1000, "y")
	check(t, o, other, o, other, nil)
	check(t, o, slices.Concat(o[500:], other[:500]), o, slices.Concat(o[500:], other[:500]), nil)
	check(t, o, slices.Concat(o[500:], other[:500]), o[:700], slices.Concat(o[500:700], other[:500]), nil)
	check(t, o, slices.Concat(o[500:], other[:500]), slices.Concat(files("a", ""), o[300:], other[700:999]), slices.Concat(files("a", ""), o[500:], other[:499]), nil)
}

// P11.1, R1: the greatest trees.
func TestGreatest(t *testing.T) {
	text := strings.Repeat("t", 65535)
	o, a, b := many("f", 1000, text+"o"), many("f", 1000, text+"a"), many("f", 1000, text+"b")
	var paths []string
	for i := range o {
		path := strings.Repeat("p", 194) + o[i].Path
		o[i].Path, a[i].Path, b[i].Path = path, path, path
		paths = append(paths, path)
	}
	check(t, o, a, b, b, paths)
	check(t, o, b, o, b, nil)
}

// R1: of trees that aren't right something is told.
func TestNoneFails(t *testing.T) {
	long := strings.Repeat("x", 70000)
	wrong := [][]api.File{nil, files("", ""), files("b", "", "a", ""), files("a", "x", "a", "y", "a", "z"), files(long, long), files("a", long), files("a", "\n"+long), files("..", "", "\x00", "", "/", ""), files("c", "1", "b", "2", "a", "3", "c", "4"), many("f", 1500, "x"), slices.Concat(many("f", 30, ""), many("e", 30, "1")), make([]api.File, 1200)}
	for _, o := range wrong {
		for _, a := range wrong {
			for _, b := range wrong {
				if l, _ := blend.Trees(o, a, b); len(l) > 1000 {
					t.Fatalf("%d files", len(l))
				}
			}
		}
	}
}

// R4: no list and an empty one are the same.
func TestNil(t *testing.T) {
	none := [][]api.File{nil, {}, many("f", 1, "")[:0]}
	for _, x := range none {
		for _, y := range none {
			for _, z := range none {
				check(t, x, y, z, nil, nil)
			}
			check(t, x, y, files("a", ""), files("a", ""), nil)
			check(t, x, files("a", ""), y, files("a", ""), nil)
			check(t, files("a", ""), x, y, nil, nil)
		}
	}
}

// R5: what is handed in is not changed, nor is what stands behind it; what is answered is memory of its own.
func TestOwnMemory(t *testing.T) {
	three := func() [3][]api.File {
		return [3][]api.File{files("a", "1", "b", "1", "c", "1", "y", "behind"), files("a", "2", "b", "1", "z", "behind"), files("a", "1", "b", "2", "c", "2", "d", "2", "z", "behind")}
	}
	for _, sides := range [][3]int{{0, 1, 2}, {0, 0, 1}, {0, 1, 0}, {1, 0, 0}, {2, 1, 0}, {1, 1, 1}} {
		whole, kept := three(), three()
		var handed [3][]api.File
		for i, k := range sides {
			// With room behind it.
			handed[i] = whole[k][:len(whole[k])-1]
		}
		l, c := blend.Trees(handed[0], handed[1], handed[2])
		m, d := blend.Trees(handed[0], handed[1], handed[2])
		want, clashing := slices.Clone(l), slices.Clone(c)
		clear(m[:cap(m)])
		clear(d[:cap(d)])
		for i := range whole {
			if !slices.Equal(whole[i], kept[i]) {
				t.Errorf("%v: what was handed in was changed: %q", sides, whole[i])
			}
			clear(whole[i])
		}
		if !slices.Equal(l, want) || !slices.Equal(c, clashing) {
			t.Errorf("%v: what was answered was changed: %q, %q", sides, l, c)
		}
	}
}

// R6: asked again, by several at once, the same is told.
func TestTogether(t *testing.T) {
	o, a, b := files("a", "1", "b", "1", "c", "1"), files("a", "2", "b", "3", "d", "4"), files("b", "5", "c", "6", "d", "7")
	want, clashing := told(o, a, b)
	var all sync.WaitGroup
	for range 8 {
		all.Go(func() {
			for range 200 {
				if l, c := blend.Trees(o, a, b); !slices.Equal(l, want) || !slices.Equal(c, clashing) || len(c) != 4 {
					t.Error("something else, when several ask")
				}
			}
		})
	}
	all.Wait()
}
