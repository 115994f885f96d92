package tree_test

import (
	"fmt"
	"math/rand"
	"slices"
	"strings"
	"testing"

	"concordat/api"
	"concordat/tree"
)

func file(path, text string) api.File { return api.File{Path: path, Text: text} }

// files returns n files with short texts and increasing paths.
func files(n int) []api.File {
	var l []api.File
	for i := range n {
		l = append(l, file(fmt.Sprintf("f%05d", i), "x"))
	}
	return l
}

// P10.1
func TestPath(t *testing.T) {
	for _, s := range []string{"a", "Z", "0", ".", "_", "a/b", "a//b", "..", "./a", "a.b_C/9", strings.Repeat("a", 24), "a/" + strings.Repeat("b", 22)} {
		if !tree.Path(s) {
			t.Errorf("Path(%q) is false", s)
		}
	}
	for _, s := range []string{"", "/", "/a", "a/", "//", "a b", "a-b", "a\n", "\x00", "é", "a\\b", "a:b", "a@b", "a[b", "a`b", "a{b", "!", "~", strings.Repeat("a", 25), "a/" + strings.Repeat("b", 23)} {
		if tree.Path(s) {
			t.Errorf("Path(%q) is true", s)
		}
	}
	const good = "abcdefghijklmnopqrstuvwxyzABCDEFGHIJKLMNOPQRSTUVWXYZ0123456789._/"
	for b := range 256 {
		if got, want := tree.Path("a"+string([]byte{byte(b)})+"a"), strings.IndexByte(good, byte(b)) >= 0; got != want {
			t.Errorf("the byte %d in a path: %t", b, got)
		}
	}
}

// P10.1
func TestCheck(t *testing.T) {
	long := strings.Repeat("x", api.MaxText)
	for i, c := range []struct {
		l    []api.File
		want api.Errno
	}{
		{nil, api.OK},
		{[]api.File{file("a", "")}, api.OK},
		{[]api.File{file("a", "&\x00"), file("b", "/*")}, api.OK},
		{[]api.File{file("B", ""), file("a", "")}, api.OK},
		{[]api.File{file("a", ""), file("a.b", ""), file("a/b", ""), file("aa", "")}, api.OK},
		{[]api.File{file("b", ""), file("a", "")}, api.ErrPath},
		{[]api.File{file("a", ""), file("a", "")}, api.ErrPath},
		{[]api.File{file("a", ""), file("c", ""), file("b", "")}, api.ErrPath},
		{[]api.File{file("", "")}, api.ErrPath},
		{[]api.File{file("a", ""), file("b/", "")}, api.ErrPath},
		{[]api.File{file("a", ""), file("-", "")}, api.ErrPath},
		{files(40), api.OK},
		{files(41), api.ErrLimit},
		{[]api.File{file("a", long)}, api.OK},
		{[]api.File{file("a", long+"x")}, api.ErrLimit},
		{[]api.File{file("a", long), file("b", "")}, api.OK},
		{[]api.File{file("a", long), file("b", "x")}, api.ErrLimit},
		{[]api.File{file("a", long[1:]), file("b", "x")}, api.OK},
		{[]api.File{file("/", long+"x")}, api.ErrLimit},
		{append(files(40), file("a", "")), api.ErrLimit},
	} {
		if e := tree.Check(c.l); e != c.want {
			t.Errorf("case %d: Check = %d, want %d", i, e, c.want)
		}
	}
}

// P10.1
func TestSize(t *testing.T) {
	if n := tree.Size(nil); n != 0 {
		t.Error(n)
	}
	if n := tree.Size([]api.File{file("abc", "12"), file("abc", "é"), file("", "\n")}); n != 5 {
		t.Error(n)
	}
}

// P10.2
func TestGet(t *testing.T) {
	l := []api.File{file("b", "1"), file("a", "2"), file("b", "3"), file("", "4"), file("c", "")}
	for path, want := range map[string]string{"b": "1", "a": "2", "": "4", "c": "", "x": "-", "B": "-", "b ": "-"} {
		got, is := tree.Get(l, path)
		if is != (want != "-") || is && got != want || !is && got != "" {
			t.Errorf("Get(%q) = %q, %t", path, got, is)
		}
	}
	if got, is := tree.Get(nil, ""); got != "" || is {
		t.Error(got, is)
	}
}

// P10.2
func TestSortPutRemove(t *testing.T) {
	l := []api.File{file("b", "1"), file("a", "2"), file("b", "3"), file("-", "4"), file("B", "5"), file("a", "6")}
	before := slices.Clone(l)
	for i, c := range []struct{ got, want []api.File }{
		{tree.Sort(nil), nil},
		{tree.Sort(l), []api.File{file("-", "4"), file("B", "5"), file("a", "6"), file("b", "3")}},
		{tree.Put(l, "b", "7"), []api.File{file("-", "4"), file("B", "5"), file("a", "6"), file("b", "7")}},
		{tree.Put(l, "ab", ""), []api.File{file("-", "4"), file("B", "5"), file("a", "6"), file("ab", ""), file("b", "3")}},
		{tree.Put(nil, "", "x"), []api.File{file("", "x")}},
		{tree.Put([]api.File{file("a", "1"), file("c", "3")}, "b", "2"), []api.File{file("a", "1"), file("b", "2"), file("c", "3")}},
		{tree.Remove(l, "b"), []api.File{file("a", "2"), file("-", "4"), file("B", "5"), file("a", "6")}},
		{tree.Remove(l, "x"), before},
		{tree.Remove(l, ""), before},
		{tree.Remove(nil, "a"), nil},
		{tree.Remove([]api.File{file("a", "")}, "a"), nil},
	} {
		if !slices.Equal(c.got, c.want) {
			t.Errorf("case %d: %v, want %v", i, c.got, c.want)
		}
	}
	if !slices.Equal(l, before) {
		t.Error("an argument was changed")
	}
}

// P10.3
func TestPaths(t *testing.T) {
	for _, c := range []struct {
		l    [][]api.File
		want []string
	}{
		{nil, nil},
		{[][]api.File{nil, nil}, nil},
		{[][]api.File{{file("b", ""), file("a", "")}, nil, {file("c", ""), file("a", "x")}, {file("", ""), file("B", "")}}, []string{"", "B", "a", "b", "c"}},
		{[][]api.File{{file("a", "1"), file("a", "2")}}, []string{"a"}},
	} {
		if got := tree.Paths(c.l...); !slices.Equal(got, c.want) {
			t.Errorf("Paths(%v) = %q, want %q", c.l, got, c.want)
		}
	}
}

// P10.3
func TestSame(t *testing.T) {
	a := []api.File{file("a", "1"), file("b", "2")}
	for _, c := range []struct {
		b    []api.File
		want bool
	}{
		{[]api.File{file("a", "1"), file("b", "2")}, true},
		{nil, false},
		{a[:1], false},
		{append(slices.Clone(a), file("c", "")), false},
		{[]api.File{file("b", "2"), file("a", "1")}, false},
		{[]api.File{file("a", "1"), file("b", "3")}, false},
		{[]api.File{file("a", "1"), file("c", "2")}, false},
		{[]api.File{file("a", "1"), file("b", "2"), file("b", "2")}, false},
	} {
		if tree.Same(a, c.b) != c.want || tree.Same(c.b, a) != c.want {
			t.Errorf("Same(%v, %v) is not %t", a, c.b, c.want)
		}
	}
	if !tree.Same(nil, []api.File{}) {
		t.Error("Same of nothing and nothing is false")
	}
}

// P10.4
func TestConsequence(t *testing.T) {
	r := rand.New(rand.NewSource(12))
	for range 2000 {
		var l []api.File
		for range r.Intn(6) {
			l = append(l, file(string(rune('a'+r.Intn(4))), fmt.Sprint(r.Intn(9))))
		}
		path := string(rune('a' + r.Intn(5)))
		got := tree.Put(l, path, "new")
		if text, is := tree.Get(got, path); !is || text != "new" {
			t.Fatalf("Put(%v, %q) = %v", l, path, got)
		}
		for _, p := range tree.Paths(l) {
			want, _ := tree.Get(tree.Sort(l), p)
			if text, _ := tree.Get(got, p); p != path && text != want {
				t.Fatalf("Put(%v, %q) = %v", l, path, got)
			}
		}
	}
}

// P10.3, rule 4: results are in new memory, and unused capacity does not change.
func TestNewMemory(t *testing.T) {
	l := append(make([]api.File, 0, 5), file("a", "1"), file("b", "2"))
	for i, got := range [][]api.File{tree.Sort(l), tree.Put(l, "c", "3"), tree.Put(l, "b", "3"), tree.Remove(l, "x"), tree.Remove(l, "b")} {
		got[0] = file("x", "changed")
		if !slices.Equal(l[:5], []api.File{file("a", "1"), file("b", "2"), {}, {}, {}}) {
			t.Errorf("case %d: the argument is now %v", i, l[:5])
		}
	}
}
