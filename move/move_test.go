package move_test

import (
	"fmt"
	"slices"
	"strings"
	"testing"

	"concordat/api"
	"concordat/check"
	"concordat/move"
	"concordat/parse"
	"concordat/run"
)

// files returns a tree with the files a, b, c and so on.
func files(texts ...string) []api.File {
	var l []api.File
	for i, text := range texts {
		l = append(l, api.File{Path: string(rune('a' + i)), Text: text})
	}
	return l
}

// show prints a tree.
func show(l []api.File) string {
	var out []string
	for _, f := range l {
		out = append(out, f.Path+": "+f.Text)
	}
	return strings.Join(out, " | ")
}

// P26.1, P26.2
func TestMember(t *testing.T) {
	for _, c := range []struct {
		l         []api.File
		id, class string
		want      []api.File
		now       string
	}{
		{files("class A{static int s;int m(){return s;}} class B{}"), "A.s", "B", files("class A{int m(){return B.s;}} class B{\nstatic int s;\n}"), "B.s"},
		{files("class B{} class A{static int s;int m(){return s;}}"), "A.s", "B", files("class B{\nstatic int s;\n} class A{int m(){return B.s;}}"), "B.s"},
		{files("class A { /*1*/ static int s; /*2*/ }", "class B {\n  int f;\n}\n"), "A.s", "B", files("class A { /*1*/  /*2*/ }", "class B {\n  int f;\n\nstatic int s;\n}\n"), "B.s"},
		// Names behind a class, whichever it was, and in parentheses.
		{files("class A{static int s;}class B extends A{int m(){s=A.s;B.s=(A).s;return (s);}}class C{}", "class D{void m(){A.s=1;print(B.s);}}"), "A.s", "C",
			files("class A{}class B extends A{int m(){C.s=C.s;C.s=(C).s;return (C.s);}}class C{\nstatic int s;\n}", "class D{void m(){C.s=1;print(C.s);}}"), "C.s"},
		// To a class below, and above.
		{files("class A{static int s;void m(){s=1;}}class B extends A{void n(){s=2;A.s=3;B.s=4;}}"), "A.s", "B", files("class A{void m(){B.s=1;}}class B extends A{void n(){B.s=2;B.s=3;B.s=4;}\nstatic int s;\n}"), "B.s"},
		{files("class A{}class B extends A{static int s;void n(){s=2;B.s=4;}}"), "B.s", "A", files("class A{\nstatic int s;\n}class B extends A{void n(){A.s=2;A.s=4;}}"), "A.s"},
		// Methods, with what they name.
		{files("class A{static int s;static int m(int p){int q=s+p;return q+n()+A.n();}static int n(){return m(1)+A.m(2);}}class B{}"), "A.m()", "B",
			files("class A{static int s;static int n(){return B.m(1)+B.m(2);}}class B{\nstatic int m(int p){int q=A.s+p;return q+A.n()+A.n();}\n}"), "B.m()"},
		{files("class A{static int m(int p){if(p<1)return 1;return m(p-1)*A.m(p-2);}}class B{}"), "A.m()", "B", files("class A{}class B{\nstatic int m(int p){if(p<1)return 1;return B.m(p-1)*B.m(p-2);}\n}"), "B.m()"},
		{files("class Z{static int z;}class A extends Z{static A a;static void m(){z=1;a=new A();a.f=z;A.a.f=2;a.k();}int f;void k(){m();this.f=1;}}class B{}"), "A.m()", "B",
			files("class Z{static int z;}class A extends Z{static A a;int f;void k(){B.m();this.f=1;}}class B{\nstatic void m(){Z.z=1;A.a=new A();A.a.f=Z.z;A.a.f=2;A.a.k();}\n}"), "B.m()"},
		// A static name of the class to which the method is moved gets it, too.
		{files("class A{static void m(){B.t=s;}static int s;}class B{static int t;}"), "A.m()", "B", files("class A{static int s;}class B{static int t;\nstatic void m(){B.t=A.s;}\n}"), "B.m()"},
		{files("class B{static int t;}class A extends B{static void m(){t=1;}}"), "A.m()", "B", files("class B{static int t;\nstatic void m(){B.t=1;}\n}class A extends B{}"), "B.m()"},
		// Between files.
		{files("class A{static A s;}", "", "class B{A m(){return A.s;}}"), "A.s", "B", files("class A{}", "", "class B{A m(){return B.s;}\nstatic A s;\n}"), "B.s"},
		// A member of the same name and of the other kind is no obstacle.
		{files("class A{static int s;}class B{void s(){}}"), "A.s", "B", files("class A{}class B{void s(){}\nstatic int s;\n}"), "B.s"},
	} {
		before := slices.Clone(c.l)
		got, e := move.Member(c.l, c.id, c.class)
		if e != api.OK || !slices.Equal(got, c.want) {
			t.Errorf("Member(%s, %q, %q) = %s, %d, want %s", show(c.l), c.id, c.class, show(got), e, show(c.want))
		}
		if now, e := move.New(c.l, c.id, c.class); now != c.now || e != api.OK {
			t.Errorf("New(%s, %q, %q) = %q, %d, want %q", show(c.l), c.id, c.class, now, e, c.now)
		}
		if !slices.Equal(c.l, before) {
			t.Error("an argument was changed")
		}
	}
}

// P26.1, P26.2: the errors of New, in their order.
func TestMemberErrors(t *testing.T) {
	good := files("class A{static int s;int f;static void m(int p){}void n(){}}class B extends A{}")
	for _, c := range []struct {
		l         []api.File
		id, class string
		e         api.Errno
	}{
		{files("class A{"), "x", "y", api.ErrSyntax},
		{files("class A{int m(){}}"), "A.m()", "A", api.ErrReturn},
		{[]api.File{{Path: ""}}, "x", "y", api.ErrPath},
		{good, "x", "B", api.ErrNone},
		{good, "", "B", api.ErrNone},
		{good, "A", "B", api.ErrNone},
		{good, "A.m()#0", "B", api.ErrNone},
		{good, "A.m", "B", api.ErrNone},
		{good, "B.s", "A", api.ErrNone},
		{good, "A.s", "C", api.ErrNone},
		{good, "A.s", "", api.ErrNone},
		{good, "A.s", "A.m()", api.ErrNone},
		{good, "A.f", "C", api.ErrNone},
		{good, "A.f", "B", api.ErrRefused},
		{good, "A.n()", "B", api.ErrRefused},
		{good, "A.s", "A", api.ErrRefused},
		{good, "A.m()", "A", api.ErrRefused},
		{nil, "A.s", "B", api.ErrNone},
	} {
		got, e := move.Member(c.l, c.id, c.class)
		now, e2 := move.New(c.l, c.id, c.class)
		if len(got) != 0 || now != "" || e != c.e || e2 != c.e {
			t.Errorf("%s, %q, %q: %d, %d, want %d", show(c.l), c.id, c.class, e, e2, c.e)
		}
	}
}

// P26.2: what is refused though New has no error.
func TestMemberRefused(t *testing.T) {
	for _, c := range []struct {
		l         []api.File
		id, class string
	}{
		// A name behind an object.
		{files("class A{static int s;int m(A a){return a.s;}}class B{}"), "A.s", "B"},
		{files("class A{static int s;int m(){return this.s;}}class B{}"), "A.s", "B"},
		{files("class A{static void m(){}}class B{}class C{void n(){new A().m();}}"), "A.m()", "B"},
		{files("class A{static A s;}class B{}class C{A n(){return A.s.s;}}"), "A.s", "B"},
		// The result is no program.
		{files("class A{static int s;}class B{int s;}"), "A.s", "B"},
		{files("class A{static int s;}class C{int s;}class B extends C{}"), "A.s", "B"},
		{files("class A{static int s;}class B{}class C extends B{int s;}"), "A.s", "B"},
		{files("class A{static void m(){}}class B{void m(){}}"), "A.m()", "B"},
		{files("class A{static void m(){}}class B{}class C extends B{int m(){return 1;}}"), "A.m()", "B"},
		// A name would refer to something else.
		{files("class A{static int s;int m(int B){return s;}}class B{}"), "A.s", "B"},
		{files("class A{static int s;A B;int m(){return A.s;}}class B{}"), "A.s", "B"},
		{files("class A{static int s;static int m(int A){return s;}}class B{}"), "A.m()", "B"},
		{files("class A{static int s;}class B{}class C extends B{int m(){{int s=1;s=2;}return A.s;}}class D extends C{B B;void n(){A.s=1;}}"), "A.s", "B"},
	} {
		before := slices.Clone(c.l)
		got, e := move.Member(c.l, c.id, c.class)
		if e != api.ErrRefused || len(got) != 0 {
			t.Errorf("Member(%s, %q, %q) = %s, %d", show(c.l), c.id, c.class, show(got), e)
		}
		if !slices.Equal(c.l, before) {
			t.Error("an argument was changed")
		}
		if now, e := move.New(c.l, c.id, c.class); now == "" || e != api.OK {
			t.Errorf("New(%s, %q, %q) = %q, %d", show(c.l), c.id, c.class, now, e)
		}
	}
	for room, want := range map[int]api.Errno{0: api.ErrRefused, 1: api.ErrRefused, 2: api.OK, 3: api.OK} {
		text := "class A{static int s;}class B{}//"
		l := files(text + strings.Repeat("x", api.MaxText-len(text)-room))
		if got, e := move.Member(l, "A.s", "B"); e != want || (len(got) != 0) != (e == api.OK) {
			t.Errorf("with room for %d bytes: %d", room, e)
		}
	}
}

// P26.3
func TestClass(t *testing.T) {
	for _, c := range []struct {
		l        []api.File
		id, path string
		want     []api.File
	}{
		{files("class A{}"), "A", "b", files("", "class A{}\n")},
		{files(" class A{} // x"), "A", "b", files("  // x", "class A{}\n")},
		{files("class A{}class B{ int f; }class C{}", "class D{}"), "B", "b", files("class A{}class C{}", "class D{}\nclass B{ int f; }\n")},
		{files("class A{}", "class D{}\n"), "A", "b", files("", "class D{}\nclass A{}\n")},
		{files("class A{}", "// x"), "A", "b", files("", "// x\nclass A{}\n")},
		{files("class A{}", ""), "A", "b", files("", "class A{}\n")},
		{files("", "class A extends B{}class B{}"), "A", "a", files("class A extends B{}\n", "class B{}")},
		{files("class A{}"), "A", "A/x.y_0", []api.File{{Path: "A/x.y_0", Text: "class A{}\n"}, {Path: "a"}}},
		{files("class A{}//1\nclass B{}"), "B", "b", files("class A{}//1\n", "class B{}\n")},
	} {
		before := slices.Clone(c.l)
		if got, e := move.Class(c.l, c.id, c.path); e != api.OK || !slices.Equal(got, c.want) {
			t.Errorf("Class(%s, %q, %q) = %s, %d, want %s", show(c.l), c.id, c.path, show(got), e, show(c.want))
		}
		if !slices.Equal(c.l, before) {
			t.Error("an argument was changed")
		}
	}
}

// P26.3
func TestClassErrors(t *testing.T) {
	good := files("class A{int f;}", "class B{}")
	full := files("class A{}")
	for i := range api.MaxFiles - 1 {
		full = append(full, api.File{Path: fmt.Sprintf("b%02d", i)})
	}
	for _, c := range []struct {
		l        []api.File
		id, path string
		e        api.Errno
	}{
		{files("class A{"), "x", "", api.ErrSyntax},
		{files("class A{int m(){}}"), "x", "", api.ErrReturn},
		{good, "C", "", api.ErrNone},
		{good, "", "c", api.ErrNone},
		{good, "A.f", "c", api.ErrNone},
		{good, "A", "", api.ErrArg},
		{good, "A", "/x", api.ErrArg},
		{good, "A", "a b", api.ErrArg},
		{good, "A", strings.Repeat("x", 25), api.ErrArg},
		{good, "A", "a", api.ErrRefused},
		{good, "B", "b", api.ErrRefused},
		{full, "A", "c", api.ErrRefused},
		{files("class A{}//" + strings.Repeat("x", api.MaxText-11)), "A", "b", api.ErrRefused},
	} {
		if got, e := move.Class(c.l, c.id, c.path); e != c.e || len(got) != 0 {
			t.Errorf("Class(%s, %q, %q) = %d, want %d", show(c.l[:1]), c.id, c.path, e, c.e)
		}
	}
	if got, e := move.Class(full, "A", "b00"); e != api.OK || len(got) != api.MaxFiles {
		t.Errorf("%d", e)
	}
}

// P26.4
func TestWhere(t *testing.T) {
	l := files("class A{int B;}", "", "class B{}class C{void m(){}}")
	for id, want := range map[string]string{"A": "a", "B": "c", "C": "c", "D": "", "": "", "A.B": "", "C.m()": ""} {
		if got, is := move.Where(l, id); got != want || is != (want != "") {
			t.Errorf("Where(%q) = %q, %t", id, got, is)
		}
	}
	for _, l := range [][]api.File{nil, files("class A{int m(){}}"), files("class A{")} {
		if got, is := move.Where(l, "A"); got != "" || is {
			t.Errorf("Where in %s = %q, %t", show(l), got, is)
		}
	}
}

// P26.5
func TestConsequences(t *testing.T) {
	l := files(
		"class Main{static int s;static void main(){s=A.up(2);print(s);B.t=B.down(s);print(B.t);print(new B().m());}}",
		"class A{static int k;static int up(int n){k=k+n;if(n<1)return k;return up(n-1)*2;}}//x\nclass B extends A{static int t;int m(){return t+k+Main.s;}static int down(int n){k=k-n;return A.k+up(1);}}",
	)
	ran := func(l []api.File) run.Result {
		var nodes [][]api.Node
		for _, f := range l {
			n, _ := parse.File(f.Text)
			nodes = append(nodes, n)
		}
		return run.Program(nodes, 10000)
	}
	want := ran(l)
	if want.E != api.OK || len(want.Out) != 3 {
		t.Fatal(want)
	}
	table, _ := check.Table(l)
	done := 0
	for _, e := range table {
		for _, class := range []string{"Main", "A", "B"} {
			got, errno := move.Member(l, e.Id, class)
			if errno != api.OK {
				continue
			}
			done++
			if r := ran(got); e.Name != "main" && (!run.Same(r, want) || r.Steps != want.Steps) {
				t.Errorf("%s to %s: %v", e.Id, class, r)
			}
		}
		for _, path := range []string{"a", "b", "c"} {
			got, errno := move.Class(l, e.Id, path)
			if errno != api.OK {
				continue
			}
			done++
			if r := ran(got); !run.Same(r, want) || r.Steps != want.Steps {
				t.Errorf("%s to %s: %v", e.Id, path, r)
			}
			if where, is := move.Where(got, e.Id); where != path || !is {
				t.Errorf("%s is in %q", e.Id, where)
			}
		}
	}
	if done < 15 {
		t.Errorf("only %d moves were done", done)
	}
}
