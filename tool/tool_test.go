package tool_test

import (
	"fmt"
	"reflect"
	"slices"
	"strings"
	"testing"

	"concordat/api"
	"concordat/check"
	"concordat/fallback"
	"concordat/merge"
	"concordat/report"
	"concordat/tool"
)

// files returns a tree with the files a, b, c and so on; a text - leaves one out.
func files(texts ...string) []api.File {
	var l []api.File
	for i, text := range texts {
		if text != "-" {
			l = append(l, api.File{Path: string(rune('a' + i)), Text: text})
		}
	}
	return l
}

// deep is a program but for its depth.
func deep() string {
	return "class A{void m(){" + strings.Repeat("{", 60) + strings.Repeat("}", 60) + "}}"
}

// Ten examples of the whole, with more about each of them.
var examples = []struct {
	o, a, b []api.File
	kind    int
	files   []api.File
	text    string
}{
	{files("class A{int f;}"), files("class A{int g;}"), files("class A{int f;int m(){return f;}}"), api.Merged, files("class A{int g;int m(){return g;}}"), "merged\nleft: rename A.f to g\n"},
	{files("class A{static int s;}class B{}"), files("class A{}class B{static int s;}"), files("class A{static int s;int m(){return A.s;}}class B{}"), api.Merged, files("class A{int m(){return B.s;}}class B{static int s;}"), "merged\nleft: move-member A.s to B\n"},
	{files("class A{int f;}\n"), files("class A{int g;}\n"), files("class A{int h;}\n"), api.Conflicts, files("<<<<<<< ours\nclass A{int g;}\n=======\nclass A{int h;}\n>>>>>>> theirs\n"), "conflicts\nleft: rename A.f to g\nright: rename A.f to h\nconflict: replay rename A.f to h\nconflict: replay rename A.f to g\n"},
	{files("class A{int m(){return 1+2;}}"), files("class A{int m(){return 3+2;}}"), files("class A{int m(){return 1+4;}}"), api.Merged, files("class A{int m(){return 3+4;}}"), "merged\n"},
	{files("class A{int m(){return 1;}}\n"), files("class A{int m(){return 2;}}\n"), files("class A{int m(){return 3;}}\n"), api.Conflicts, files("<<<<<<< ours\nclass A{int m(){return 2;}}\n=======\nclass A{int m(){return 3;}}\n>>>>>>> theirs\n"), "conflicts\nconflict: text A.m()\n"},
	{files("class A{\nint f;\n\n\n}"), files("class A{\n\n\n}"), files("class A{\nint f;\n\n\nint m(){return f;}\n}"), api.Conflicts, files("class A{\n\n\nint m(){return f;}\n}"), "conflicts\nconflict: types a\n"},
	{files("class A{int f;}"), files("class A{int x;int f;}"), files("class A{int y;int f;}"), api.Merged, files("class A{int x;int y;int f;}"), "merged\n"},
	{files("", "class B{}\n"), files(""), files("", "class B{int f;}\n"), api.Conflicts, files("", "<<<<<<< ours\n=======\nclass B{int f;}\n>>>>>>> theirs\n"), "conflicts\nconflict: gone b\n"},
	{files("class A{\n1\n2\n"), files("class B{\n1\n2\n"), files("class A{\n1\n3\n"), api.Textual, files("class B{\n1\n3\n"), "textual\n"},
	{files(deep()), files("class A{}"), files("class B{"), api.TooLarge, nil, "too large\n"},
	{nil, nil, nil, api.Merged, nil, "merged\n"},
	{files("x\n"), files("y\n"), files("z\n", "class"), api.Textual, files("<<<<<<< ours\ny\n=======\nz\n>>>>>>> theirs\n", "class"), "textual\nconflict: text a\n"},
	{files("x\n"), files("y\n"), nil, api.Textual, files("<<<<<<< ours\ny\n=======\n>>>>>>> theirs\n"), "textual\nconflict: gone a\n"},
	{files("class A{}"), files("class A{int m(){}}"), files("class A{}"), api.Textual, files("class A{int m(){}}"), "textual\n"},
	{files("class A{}"), files("class A{}"), files(strings.Repeat(" ", api.MaxText+1)), api.TooLarge, nil, "too large\n"},
	{make([]api.File, 41), files("x"), nil, api.TooLarge, nil, "too large\n"},
}

// P34.1, P34.2
func TestRun(t *testing.T) {
	for i, c := range examples {
		x := tool.Run(c.o, c.a, c.b, false)
		if x.Kind != c.kind || !slices.Equal(x.Files, c.files) || tool.Text(x) != c.text {
			t.Errorf("case %d: %d, %q, %q, want %d, %q, %q", i, x.Kind, x.Files, tool.Text(x), c.kind, c.files, c.text)
		}
		if x.Wrong != [3]api.Mistake{check.Tree(c.o), check.Tree(c.a), check.Tree(c.b)} {
			t.Errorf("case %d: %v", i, x.Wrong)
		}
		for _, old := range []bool{false, true} {
			expect(t, fmt.Sprint("case ", i), tool.Run(c.o, c.a, c.b, old), c.o, c.a, c.b, old)
		}
	}
}

// expect checks an outcome against what P34.1 and P34.2 say.
func expect(t *testing.T, name string, x tool.Outcome, o, a, b []api.File, old bool) {
	t.Helper()
	wrong := [3]api.Mistake{check.Tree(o), check.Tree(a), check.Tree(b)}
	limit, bad := false, false
	for _, m := range wrong {
		limit = limit || m.Code == api.ErrLimit
		bad = bad || m.Code != api.OK
	}
	want := tool.Outcome{Wrong: wrong}
	files, conflicts := fallback.Trees(o, a, b, old)
	r := merge.Programs(o, a, b)
	switch {
	case limit:
		want.Kind, files, conflicts = api.TooLarge, nil, nil
	case bad:
		want.Kind, want.Files, want.Bad = api.Textual, files, conflicts
	case len(r.Bad) == 0:
		want.Kind, want.Files, want.Left, want.Right, conflicts = api.Merged, r.Tree, r.Left, r.Right, nil
	default:
		want.Kind, want.Files, want.Bad, want.Left, want.Right = api.Conflicts, files, r.Bad, r.Left, r.Right
	}
	if x.Kind != want.Kind || x.Wrong != want.Wrong || !slices.Equal(x.Files, want.Files) || !slices.Equal(x.Bad, want.Bad) || !slices.Equal(x.Left, want.Left) || !slices.Equal(x.Right, want.Right) {
		t.Errorf("%s: %v, want %v", name, x, want)
	}
	if got := tool.Text(x); got != report.Text(x.Kind, x.Left, x.Right, x.Bad) {
		t.Errorf("%s: %q", name, got)
	}
	for _, path := range []string{"", "a", "b", "c", "A.m()"} {
		marked := slices.ContainsFunc(conflicts, func(c api.Conflict) bool { return c.Key == path })
		if got := tool.Marked(x, path); got != marked {
			t.Errorf("%s: Marked(%q) = %t", name, path, got)
		}
	}
}

// P34.2
func TestMarked(t *testing.T) {
	x := tool.Run(files("1\n", "1\n", "1\n"), files("2\n", "2\n", "2\n"), files("3\n", "1\n"), false)
	for path, want := range map[string]bool{"a": true, "b": false, "c": true, "d": false, "": false} {
		if got := tool.Marked(x, path); got != want {
			t.Errorf("Marked(%q) = %t", path, got)
		}
	}
	// What the caller does to the lists of an outcome changes nothing.
	x.Bad[0].Key, x.Files[0].Path, x.Bad, x.Files = "z", "z", nil, nil
	if !tool.Marked(x, "a") || tool.Marked(x, "z") {
		t.Error("Marked follows the lists of the outcome")
	}
	// The conflicts of programs are others than the files that have markers.
	x = tool.Run(files("class A{int f;}\n"), files("class A{int g;}\n"), files("class A{int h;}\n"), true)
	if x.Kind != api.Conflicts || !tool.Marked(x, "a") || tool.Marked(x, "rename A.f to h") {
		t.Error(x)
	}
	x = tool.Run(files("class A{\nint f;\n\n\n}"), files("class A{\n\n\n}"), files("class A{\nint f;\n\n\nint m(){return f;}\n}"), false)
	if x.Kind != api.Conflicts || len(x.Bad) != 1 || tool.Marked(x, "a") {
		t.Error(x)
	}
	// Outcomes that Run did not return.
	for kind := range 6 {
		made := tool.Outcome{Kind: kind, Files: files("<<<<<<< ours\n"), Bad: []api.Conflict{{Kind: api.InText, Key: "a"}}}
		if tool.Marked(made, "a") || tool.Marked(made, "") {
			t.Errorf("kind %d", kind)
		}
	}
}

// P34.2: the report of any outcome.
func TestText(t *testing.T) {
	x := tool.Outcome{Kind: api.Conflicts, Left: []api.Request{{Kind: api.Rename, Id: "A", To: "B"}}, Right: []api.Request{{Kind: api.MoveClass, Id: "C", To: "d"}}, Bad: []api.Conflict{{Kind: api.InOrder, Key: "a"}}}
	if got := tool.Text(x); got != "conflicts\nleft: rename A to B\nright: move-class C to d\nconflict: order a\n" {
		t.Errorf("%q", got)
	}
	if got := tool.Text(tool.Outcome{}); got != "\n" {
		t.Errorf("%q", got)
	}
}

// P34.3, Q1, Q2
func TestConsequences(t *testing.T) {
	sides := [][]api.File{
		nil, files(""), files("class A{int f;}"), files("class A{int g;}", "class B extends A{}"), files("class A{", "x"), files("class A{int m(){}}"),
		files("class B{}", "class A{static int f;}"), files("-", "class A{int f;int m(){return f;}}class B{}"), files(deep()), files("<<<<<<< ours\n", "=======\n"),
		{{Path: "-"}}, {{Path: "b"}, {Path: "a", Text: "class A{}"}},
	}
	for i, o := range sides {
		for k, a := range sides {
			for n, b := range sides {
				x := tool.Run(o, a, b, n%2 == 0)
				expect(t, fmt.Sprint(i, k, n), x, o, a, b, n%2 == 0)
				programs := x.Wrong == [3]api.Mistake{}
				switch {
				case x.Kind == api.Merged && (!programs || check.Tree(x.Files).Code != api.OK || len(x.Bad) > 0),
					x.Kind == api.Conflicts && (!programs || len(x.Bad) == 0),
					x.Kind == api.Textual && programs,
					x.Kind == api.TooLarge && (programs || !reflect.DeepEqual(x, tool.Outcome{Kind: api.TooLarge, Wrong: x.Wrong})),
					x.Kind < api.Merged || x.Kind > api.TooLarge:
					t.Errorf("%d, %d, %d: %v", i, k, n, x)
				}
				if programs && i == k && (x.Kind != api.Merged || !slices.Equal(x.Files, b)) || programs && i == n && (x.Kind != api.Merged || !slices.Equal(x.Files, a)) {
					t.Errorf("%d, %d, %d: one side equals the base, %v", i, k, n, x)
				}
			}
		}
	}
}

// Q4: a tree that is no program is merged by lines, and the markers can be
// told from what looks like one.
func TestLineByLine(t *testing.T) {
	o := files("class A{\n<<<<<<< ours\n1\n>>>>>>> theirs\n")
	a := files("class A{\n<<<<<<< ours\n2\n=======\n>>>>>>> theirs\n")
	b := files("class A{\n<<<<<<< ours\n========\n>>>>>>> theirs\n")
	x := tool.Run(o, a, b, true)
	n := fallback.Marks(o[0].Text, a[0].Text, b[0].Text)
	sides, e := fallback.Sides(x.Files[0].Text, n)
	if x.Kind != api.Textual || n != 9 || e != api.OK || sides != [3]string{o[0].Text, a[0].Text, b[0].Text} {
		t.Errorf("%v, %d, %q, %d", x, n, sides, e)
	}
}

// Arguments don't change, and results are in new memory.
func TestNewMemory(t *testing.T) {
	for _, c := range examples {
		before := [][]api.File{slices.Clone(c.o), slices.Clone(c.a), slices.Clone(c.b)}
		x := tool.Run(c.o, c.a, c.b, false)
		for i := range x.Files {
			x.Files[i].Text = "changed"
		}
		if !slices.Equal(c.o, before[0]) || !slices.Equal(c.a, before[1]) || !slices.Equal(c.b, before[2]) {
			t.Error("an argument was changed")
		}
	}
}
