package merge_test

import (
	"fmt"
	"reflect"
	"slices"
	"strings"
	"testing"

	"concordat/api"
	"concordat/check"
	"concordat/decls"
	"concordat/match"
	"concordat/merge"
	"concordat/move"
	"concordat/request"
)

// files returns a tree with the files a, b, c and so on; a text - leaves one out.
func files(texts ...string) []api.File {
	var l []api.File
	for i, text := range texts {
		if text != "-" {
			l = append(l, api.File{Path: string(rune('a' + i)), Text: text})
		}
	}
	return l
}

func rename(id, to string) api.Request     { return api.Request{Kind: api.Rename, Id: id, To: to} }
func moveMember(id, to string) api.Request { return api.Request{Kind: api.MoveMember, Id: id, To: to} }
func moveClass(id, to string) api.Request  { return api.Request{Kind: api.MoveClass, Id: id, To: to} }

// show prints conflicts.
func show(l []api.Conflict) string {
	var out []string
	for _, c := range l {
		out = append(out, fmt.Sprint(c.Kind)+" "+c.Key)
	}
	return strings.Join(out, ", ")
}

// shows prints requests.
func shows(l []api.Request) string {
	var out []string
	for _, r := range l {
		out = append(out, request.Show(r))
	}
	return strings.Join(out, ", ")
}

// base is a program with everything that can be asked for.
func base() []api.File {
	return files("class A{static int s;int f;int m(int p){int q=p;return q+f+s;}}", "class B extends A{int m(int p){return A.s;}}class C{}")
}

// P31.1
func TestThroughAndBack(t *testing.T) {
	rs := []api.Request{rename("A", "D"), rename("X", "Y"), rename("D.s", "t"), moveMember("D.t", "C"), moveClass("C", "c"), {}, rename("B.m()", "k")}
	for id, want := range map[string]string{"A": "D", "A.s": "C.t", "A.f": "D.f", "A.m()": "D.k()", "A.m()#1": "D.k()#1", "B.m()#0": "B.k()#0", "C": "C", "x": "x", "": "", "D": "D", "D.s": "C.t"} {
		if got := merge.Through(base(), rs, id); got != want {
			t.Errorf("Through(%q) = %q, want %q", id, got, want)
		}
	}
	for id, want := range map[string]string{"D": "A", "C.t": "A.s", "D.k()": "A.m()", "B.k()": "B.m()", "D.k()#0": "A.m()#0", "C": "C", "A": "", "A.s": "", "D.t": "", "": ""} {
		if got, is := merge.Back(base(), rs, id); got != want || is != (want != "") {
			t.Errorf("Back(%q) = %q, %t, want %q", id, got, is, want)
		}
	}
	for _, l := range [][]api.File{nil, files("class A{")} {
		if got := merge.Through(l, rs, "A.f"); got != "A.f" {
			t.Errorf("Through = %q", got)
		}
		if got, is := merge.Back(l, rs, "A"); got != "" || is {
			t.Errorf("Back = %q, %t", got, is)
		}
	}
	if got, is := merge.Back(base(), nil, "A.f"); got != "A.f" || !is {
		t.Errorf("Back = %q, %t", got, is)
	}
}

// through and back are what P31.1 says, word by word.
func through(l []api.File, rs []api.Request, id string) string {
	for _, r := range rs {
		id = request.Id(l, r, id)
		if next, _, e := request.Do(l, r); e == api.OK {
			l = next
		}
	}
	return id
}

func back(l []api.File, rs []api.Request, id string) (string, bool) {
	table, _ := check.Table(l)
	for _, e := range table {
		if through(l, rs, e.Id) == id {
			return e.Id, true
		}
	}
	return "", false
}

// replay is what P31.2 says, word by word.
func replay(o, l []api.File, own, rs []api.Request) ([]api.File, []api.Request) {
	current := l
	var done, bad []api.Request
	find := func(l []api.File, id string) (api.Entity, bool) {
		table, _ := check.Table(l)
		return decls.Find(table, id)
	}
	where := func(l []api.File, id string) string { path, _ := move.Where(l, id); return path }
	for i, r := range rs {
		id, is := back(o, rs[:i], r.Id)
		if !is {
			continue
		}
		e, _ := find(o, id)
		local := func(id string) string { return through(l, done, through(o, own, id)) }
		here := api.Request{Kind: r.Kind, Id: local(id), To: r.To}
		if class, is := back(o, rs[:i], r.To); is && r.Kind == api.MoveMember {
			here.To = local(class)
		}
		x, is := find(current, here.Id)
		if !is || r.Kind == api.Rename && x.Name == here.To || r.Kind == api.MoveMember && x.Owner == here.To || r.Kind == api.MoveClass && where(current, x.Id) == here.To {
			continue
		}
		y, is := find(l, through(o, own, id))
		differently := is && (r.Kind == api.Rename && y.Name != e.Name || r.Kind == api.MoveMember && y.Owner != through(o, own, e.Owner) || r.Kind == api.MoveClass && where(l, y.Id) != where(o, id))
		next, _, errno := request.Do(current, here)
		if errno != api.OK || differently {
			bad = append(bad, r)
			continue
		}
		current, done = next, append(done, here)
	}
	return current, bad
}

// P31.2
func TestReplay(t *testing.T) {
	do := func(l []api.File, rs ...api.Request) []api.File {
		out, _, e := request.All(l, rs)
		if e != api.OK {
			t.Fatal(shows(rs), e)
		}
		return out
	}
	static := files("class A{static int s;static int m(){return s;}}class B{}", "class C{int n(){return A.m();}}")
	for _, c := range []struct {
		o   []api.File
		own []api.Request
		rs  []api.Request
		bad string
	}{
		{base(), nil, nil, ""},
		{base(), nil, []api.Request{rename("A.f", "g")}, ""},
		{base(), nil, []api.Request{rename("A", "D"), rename("D.f", "g"), moveMember("D.s", "C"), moveClass("C", "x")}, ""},
		// The ids are those that the side has.
		{base(), []api.Request{rename("A", "E")}, []api.Request{rename("A.f", "g")}, ""},
		{base(), []api.Request{rename("A", "E"), rename("E.m()", "k")}, []api.Request{rename("A.f", "g"), rename("A.m()#1", "z"), moveClass("A", "c")}, ""},
		{static, []api.Request{rename("B", "D")}, []api.Request{moveMember("A.s", "B"), moveMember("A.m()", "B")}, ""},
		{static, []api.Request{moveMember("A.m()", "C")}, []api.Request{rename("A", "Z"), rename("Z.m()", "k"), rename("C.n()", "l")}, ""},
		{static, []api.Request{rename("B", "D")}, []api.Request{rename("C", "B1"), moveMember("A.s", "B1"), rename("B1.s", "t")}, ""},
		// Both sides did the same.
		{base(), []api.Request{rename("A.f", "g")}, []api.Request{rename("A.f", "g")}, ""},
		{static, []api.Request{moveMember("A.s", "B")}, []api.Request{moveMember("A.s", "B")}, ""},
		{static, []api.Request{moveMember("A.s", "B"), rename("B", "D")}, []api.Request{rename("B", "D"), moveMember("A.s", "D")}, ""},
		{base(), []api.Request{moveClass("C", "a")}, []api.Request{moveClass("C", "a")}, ""},
		// Both sides changed the same thing differently.
		{base(), []api.Request{rename("A.f", "g")}, []api.Request{rename("A.f", "h")}, "rename A.f to h"},
		{base(), []api.Request{rename("B.m()", "g")}, []api.Request{rename("A.m()", "h")}, "rename A.m() to h"},
		{static, []api.Request{moveMember("A.s", "B")}, []api.Request{moveMember("A.s", "C")}, "move-member A.s to C"},
		{base(), []api.Request{moveClass("C", "c")}, []api.Request{moveClass("C", "d")}, "move-class C to d"},
		{static, []api.Request{rename("A", "D")}, []api.Request{rename("A", "E"), rename("E.s", "t"), rename("C", "X")}, "rename A to E"},
		// What can't be done there.
		{base(), []api.Request{rename("A.f", "g")}, []api.Request{rename("A.s", "g"), rename("C", "D")}, "rename A.s to g"},
		{base(), nil, []api.Request{rename("A.f", "s"), rename("A.f", "class"), rename("A.f", "g")}, "rename A.f to s, rename A.f to class"},
		{static, nil, []api.Request{moveMember("A.s", "X")}, "move-member A.s to X"},
		// Entities that the base does not have are skipped.
		{base(), nil, []api.Request{rename("X", "Y"), rename("", "g"), moveMember("A.x", "B"), moveClass("A.f", "z")}, "move-class A.f to z"},
		{base(), nil, []api.Request{{Kind: 7, Id: "A", To: "B"}, {Kind: 0, Id: "x", To: "B"}}, ""},
	} {
		l := do(c.o, c.own...)
		got, bad := merge.Replay(c.o, l, c.own, c.rs)
		want, wantBad := replay(c.o, l, c.own, c.rs)
		if !slices.Equal(got, want) || !slices.Equal(bad, wantBad) {
			t.Errorf("own %s, replayed %s: %v, %s, want %v, %s", shows(c.own), shows(c.rs), got, shows(bad), want, shows(wantBad))
		}
		if c.rs == nil || c.rs[0].Kind != 7 {
			if shows(bad) != c.bad {
				t.Errorf("own %s, replayed %s: %s, want %s", shows(c.own), shows(c.rs), shows(bad), c.bad)
			}
		} else if !slices.Equal(bad, c.rs[:1]) {
			t.Errorf("%v", bad)
		}
	}
	// A side that has more, and less, than the base.
	o := files("class A{int f;int g;void m(){}}")
	l := files("class A{int g;void m(){f();}void f(){g=1;}}class B extends A{void m(){}}")
	got, bad := merge.Replay(o, l, nil, []api.Request{rename("A.f", "h"), rename("A.g", "i"), rename("A.m()", "k")})
	if want := files("class A{int i;void k(){f();}void f(){i=1;}}class B extends A{void k(){}}"); !slices.Equal(got, want) || len(bad) != 0 {
		t.Errorf("%v, %s", got, shows(bad))
	}
	// Trees that are no programs.
	for _, wrong := range [][]api.File{files("class A{"), nil} {
		got, bad := merge.Replay(wrong, o, nil, []api.Request{rename("A.f", "h")})
		if !slices.Equal(got, o) || len(bad) != 0 {
			t.Errorf("%v, %s", got, shows(bad))
		}
		got, bad = merge.Replay(o, wrong, nil, []api.Request{rename("A.f", "h")})
		if !slices.Equal(got, wrong) || len(bad) != 0 {
			t.Errorf("%v, %s", got, shows(bad))
		}
	}
	got, _ = merge.Replay(o, l, nil, nil)
	got[0].Text = "changed"
	if l[0].Text == "changed" {
		t.Error("the result of Replay shares memory with its argument")
	}
}

// P31.3
func TestCells(t *testing.T) {
	for _, c := range []struct {
		o, a, b []api.File
		want    []api.File
		bad     string
	}{
		{nil, nil, nil, nil, ""},
		{files("class A{}"), files("class A{}"), files("class A{}"), files("class A{}"), ""},
		// Both sides add members, at one place and at two.
		{files("class A{int f;int g;}"), files("class A{int f;int x;int g;}"), files("class A{int f;int y;int g;}"), files("class A{int f;int x;int y;int g;}"), ""},
		{files("class A{int f;int g;}"), files("class A{int x;int f;int g;}"), files("class A{int f;int g;int y;}"), files("class A{int x;int f;int g;int y;}"), ""},
		{files("class A{int f;int g;}"), files("class A{int g;int f;}"), files("class A{int f;boolean g;}"), files("class A{boolean g;int f;}"), ""},
		{files("class A{int f;int g;}"), files("class A{int g;}"), files("class A{int f;int g;int h;}"), files("class A{int g;int h;}"), ""},
		// One method that both sides change.
		{files("class A{int m(){return 1+2;}}"), files("class A{int m(){return 3+2;}}"), files("class A{int m(){return 1+4;}}"), files("class A{int m(){return 3+4;}}"), ""},
		{files("class A{int m(){return 1;}}"), files("class A{int m(){return 2;}}"), files("class A{int m(){return 3;}}"), files("class A{}"), "1 A.m()"},
		{files("class A{int m(){return 1;}}"), files("class A{}"), files("class A{int m(){return 3;}}"), files("class A{}"), "3 A.m()"},
		{files("class A{}"), files("class A{int f;}"), files("class A{boolean f;}"), files("class A{}"), "1 A.f"},
		{files("class A {}"), files("class A  {}"), files("class A extends B {}"), files("}"), "1 A{"},
		// Orders that don't go together: no text, and no use of its cells.
		{files("class A{int f;int g;int h;}", "class B{}"), files("class A{int g;int f;int h;}", "class B{}"), files("class A{int f;int h;int g;}", "class B{}"), files("", "class B{}"), "2 a, 2 A{, 2 A.g, 2 A.f, 2 A.h, 2 A}, 2 $a"},
		// Files that are added and removed.
		{files("class A{}"), files("class A{}", "class B{}"), files("class A{}", "-", "class C{}"), files("class A{}", "class B{}", "class C{}"), ""},
		{files("class A{}", "class B{}"), files("class A{}"), files("class A{}", "class B{}"), files("class A{}"), ""},
		{files("class A{}", "class B{}"), files("class A{}"), files("class A{}", "class B{int f;}"), files("class A{}"), "3 b"},
		{files("class A{}", "class B{}\n"), files("class A{}"), files("class A{}", "class B{} \n"), files("class A{}"), "3 $b"},
		{files("class A{}", "class B{}"), files("class A{}"), files("-", "class B{}"), nil, ""},
		{nil, files("class A{}"), files("class A{}"), files("class A{}"), ""},
		{nil, files("class A{}"), files("class A{int f;}"), files("class A{}int f;"), ""},
		{nil, files("class A{}//1"), files("class A{}//2"), files("class A{}"), "1 $a"},
		{nil, files("", ""), files("-", "", ""), files("", "", ""), ""},
		// A class that both sides move to different files stays in the first of them.
		{files("class A{}", "", ""), files("", "class A{}", ""), files("", "", "class A{}"), files("", "class A{}", ""), ""},
		{files("class A{}", ""), files("", "class A{}"), files("class A{int f;}", ""), files("int f;", "class A{}"), ""},
		{files("", "class A{}"), files("class A{}"), files("", "class A{int f;}"), files("class A{}"), "3 b"},
	} {
		got, bad := merge.Cells(c.o, c.a, c.b)
		want, wantBad := cellsOf(c.o, c.a, c.b)
		if !slices.Equal(got, want) || !slices.Equal(bad, wantBad) {
			t.Errorf("Cells(%v, %v, %v) = %v, %s, want %v, %s", c.o, c.a, c.b, got, show(bad), want, show(wantBad))
		}
		if !slices.Equal(got, c.want) || show(bad) != c.bad {
			t.Errorf("Cells(%v, %v, %v) = %v, %s, want %v, %s", c.o, c.a, c.b, got, show(bad), c.want, c.bad)
		}
	}
	good := files("class A{}")
	for _, wrong := range [][]api.File{files("class A{"), {{Path: ""}}, {{Path: "b"}, {Path: "a"}}} {
		for i, l := range [][3][]api.File{{wrong, good, good}, {good, wrong, good}, {good, good, wrong}} {
			if got, bad := merge.Cells(l[0], l[1], l[2]); len(got)+len(bad) != 0 {
				t.Errorf("case %d: %v, %s", i, got, show(bad))
			}
		}
	}
}

// P31.4
func TestPrograms(t *testing.T) {
	for _, c := range []struct {
		o, a, b     []api.File
		tree        []api.File
		bad         string
		left, right string
	}{
		{nil, nil, nil, nil, "", "", ""},
		{files("class A{int f;}"), files("class A{int g;}"), files("class A{int f;int m(){return f;}}"), files("class A{int g;int m(){return g;}}"), "", "rename A.f to g", ""},
		{files("class A{int f;}"), files("class A{int f;int m(){return f;}}"), files("class A{int g;}"), files("class A{int g;int m(){return g;}}"), "", "", "rename A.f to g"},
		{files("class A{static int s;}class B{}"), files("class A{}class B{static int s;}"), files("class A{static int s;int m(){return A.s;}}class B{}"), files("class A{int m(){return B.s;}}class B{static int s;}"), "", "move-member A.s to B", ""},
		{files("class A{int f;}"), files("class A{int g;}"), files("class A{int h;}"), nil, "4 rename A.f to h, 4 rename A.f to g", "rename A.f to g", "rename A.f to h"},
		{files("class A{int f;}"), files("class A{int g;}"), files("class A{int g;}"), files("class A{int g;}"), "", "rename A.f to g", "rename A.f to g"},
		{files("class A{int f;int g;}"), files("class A{int h;int g;}"), files("class A{int f;boolean i;}"), files("class A{int h;boolean i;}"), "", "rename A.f to h", ""},
		{files("class A{int m(){return 1+2;}}"), files("class A{int m(){return 3+2;}}"), files("class A{int m(){return 1+4;}}"), files("class A{int m(){return 3+4;}}"), "", "", ""},
		{files("class A{int m(){return 1;}}"), files("class A{int m(){return 2;}}"), files("class A{int m(){return 3;}}"), nil, "1 A.m()", "", ""},
		// The result is no program.
		{files("class A{int f;}"), files("class A{}"), files("class A{int f;int m(){return f;}}"), nil, "5 a", "", ""},
		{files("", "class A{int f;}"), files("", "class A{}"), files("class B{int m(A a){return a.f;}}", "class A{int f;}"), nil, "5 a", "", ""},
		{files("class A{}"), files("class A{}", "class B{}"), files("class A{}", "-", "class B{}"), files("class A{}", "class B{}", ""), "", "", ""},
		// Both kinds of conflicts; those of the replay come first, and nothing is checked then.
		{files("class A{int f;int m(){return 1;}int k(){return 2;}}"), files("class A{int g;int m(){return 3;}}"), files("class A{int h;int m(){return 4;}int k(){return 5;}}"), nil, "4 rename A.f to h, 4 rename A.f to g, 1 A.m(), 3 A.k()", "rename A.f to g", "rename A.f to h"},
		// A class that one side moves to another file, and the other one changes.
		{files("class A{int f;}class B{}"), files("class A{int f;}", "class B{}"), files("class A{int f;}class B{int g;}"), files("class A{int f;}", "class B{int g;}"), "", "move-class B to b", ""},
		// A side that renames a class, another one that adds uses of it.
		{files("class A{int f;}", ""), files("class Z{int f;}", ""), files("class A{int f;}", "class B{A a;int m(){return new A().f;}}"), files("class Z{int f;}", "class B{Z a;int m(){return new Z().f;}}"), "", "rename A to Z", ""},
	} {
		r := merge.Programs(c.o, c.a, c.b)
		if show(r.Bad) != c.bad || shows(r.Left) != c.left || shows(r.Right) != c.right {
			t.Errorf("Programs(%v, %v, %v): %s; %s; %s, want %s; %s; %s", c.o, c.a, c.b, show(r.Bad), shows(r.Left), shows(r.Right), c.bad, c.left, c.right)
		}
		if !slices.Equal(r.Tree, c.tree) {
			t.Errorf("Programs(%v, %v, %v) = %v, want %v", c.o, c.a, c.b, r.Tree, c.tree)
		}
		if want := programs(c.o, c.a, c.b); !reflect.DeepEqual(normal(r), normal(want)) {
			t.Errorf("Programs(%v, %v, %v) = %v, want %v", c.o, c.a, c.b, r, want)
		}
	}
	good := files("class A{}")
	for _, wrong := range [][]api.File{files("class A{"), files("class A{int m(){}}"), {{Path: ""}}} {
		for i, l := range [][3][]api.File{{wrong, good, good}, {good, wrong, good}, {good, good, wrong}} {
			if r := merge.Programs(l[0], l[1], l[2]); !reflect.DeepEqual(r, merge.Result{}) {
				t.Errorf("case %d: %v", i, r)
			}
		}
	}
	// A merged tree that is too large to be a program.
	long := strings.Repeat(" ", api.MaxText/2)
	r := merge.Programs(files("class A{}"), files("class A{}"+long), files(long+"class A{}"))
	if show(r.Bad) != "5 a" || r.Tree != nil {
		t.Errorf("%s, %d files", show(r.Bad), len(r.Tree))
	}
}

// normal returns a result without empty lists that are not nil.
func normal(r merge.Result) merge.Result {
	return merge.Result{Tree: slices.Clip(append([]api.File{}, r.Tree...)), Bad: append([]api.Conflict{}, r.Bad...), Left: append([]api.Request{}, r.Left...), Right: append([]api.Request{}, r.Right...)}
}

// programs is what P31.4 says, word by word.
func programs(o, a, b []api.File) merge.Result {
	r := merge.Result{Left: match.Detect(o, a), Right: match.Detect(o, b)}
	x, left := replay(o, a, r.Left, r.Right)
	y, right := replay(o, b, r.Right, r.Left)
	z, _ := replay(o, match.Replay(o, a), r.Left, r.Right)
	for _, q := range slices.Concat(left, right) {
		r.Bad = append(r.Bad, api.Conflict{Kind: api.InReplay, Key: request.Show(q)})
	}
	tree, bad := cellsOf(z, x, y)
	r.Bad = append(r.Bad, bad...)
	if m := check.Tree(tree); len(r.Bad) == 0 && m.Code != api.OK {
		r.Bad = []api.Conflict{{Kind: api.InTypes, Key: tree[m.File].Path}}
	}
	if len(r.Bad) == 0 {
		r.Tree = tree
	}
	return r
}

// P31.5
func TestOneSide(t *testing.T) {
	body := "int a=p;while(a<10){a=a+1;}return a*2;"
	sides := [][]api.File{
		base(),
		files("class A{static int s;int f;int m(int p){"+body+"}}class B{}", ""),
		files("class C{int g;int k(int p){"+body+"}}", "class B{static int s;}"),
		files("class B{}//x", "-", "class A{int m(int p){return p;}}"),
		files("class X{static int s;static int t(){return s;}}", "class Y extends X{}"),
		files("class X{}", "class Y extends X{static int t(){return s;}static int s;}"),
		files("class Y{}", "class X extends Y{static int s;static int t(){return s;}}"),
		nil,
	}
	for i, o := range sides {
		for k, b := range sides {
			for n, l := range [][3][]api.File{{o, o, b}, {o, b, o}} {
				r := merge.Programs(l[0], l[1], l[2])
				if len(r.Bad) != 0 || !slices.Equal(r.Tree, b) {
					t.Errorf("sides %d and %d, case %d: %v, %s", i, k, n, r.Tree, show(r.Bad))
				}
			}
			for j, a := range sides {
				if r := merge.Programs(o, a, b); len(r.Bad) == 0 && check.Tree(r.Tree).Code != api.OK || len(r.Bad) != 0 && r.Tree != nil {
					t.Errorf("sides %d, %d and %d: %v", i, j, k, r)
				}
			}
		}
	}
}
