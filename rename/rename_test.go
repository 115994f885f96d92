package rename_test

import (
	"fmt"
	"slices"
	"strings"
	"testing"

	"concordat/api"
	"concordat/check"
	"concordat/parse"
	"concordat/rename"
	"concordat/run"
	"concordat/span"
)

// files returns a tree with the files a, b, c and so on.
func files(texts ...string) []api.File {
	var l []api.File
	for i, text := range texts {
		l = append(l, api.File{Path: string(rune('a' + i)), Text: text})
	}
	return l
}

// texts returns the texts of a tree.
func texts(l []api.File) []string {
	var out []string
	for _, f := range l {
		out = append(out, f.Text)
	}
	return out
}

// P25.1, P25.2: what is renamed, where, and how the entity is called then.
func TestDo(t *testing.T) {
	for _, c := range []struct {
		l      []api.File
		id, to string
		want   []string
		now    string
	}{
		{files("class A{int f;int m(){return f;}}"), "A.f", "g", []string{"class A{int g;int m(){return g;}}"}, "A.g"},
		{files("class A{int f;int m(){return this.f+f;}}", "class B{A a;void f(){a.f=1;f();}}"), "A.f", "longer", []string{"class A{int longer;int m(){return this.longer+longer;}}", "class B{A a;void f(){a.longer=1;f();}}"}, "A.longer"},
		{files("class A{static int s;}", "class B extends A{int m(){s=A.s;return B.s;}}"), "A.s", "t", []string{"class A{static int t;}", "class B extends A{int m(){t=A.t;return B.t;}}"}, "A.t"},
		// A class: its declaration, types, superclasses, new objects, qualifiers.
		{files("class A{static A a;A m(A p){A q=new A();return A.a;}}", "class B extends A{}"), "A", "C", []string{"class C{static C a;C m(C p){C q=new C();return C.a;}}", "class B extends C{}"}, "C"},
		// A method: all that override it, and their calls.
		{files("class A{void m(){}}", "class B extends A{void m(){m();}void n(A a){a.m();}}", "class C extends A{void m(){}}", "class D{void m(){}}"), "B.m()", "k",
			[]string{"class A{void k(){}}", "class B extends A{void k(){k();}void n(A a){a.k();}}", "class C extends A{void k(){}}", "class D{void m(){}}"}, "B.k()"},
		{files("class A{void m(){}}", "class B extends A{void m(){}}"), "A.m()", "k", []string{"class A{void k(){}}", "class B extends A{void k(){}}"}, "A.k()"},
		// A parameter or local keeps its id.
		{files("class A{int m(int p){int q=p;{int r=q+p;}return p;}int n(int p){return p;}}"), "A.m()#0", "x", []string{"class A{int m(int x){int q=x;{int r=q+x;}return x;}int n(int p){return p;}}"}, "A.m()#0"},
		{files("class A{int m(int p){int q=p;{int r=q+p;}return p;}int n(int p){return p;}}"), "A.m()#2", "p1", []string{"class A{int m(int p){int q=p;{int p1=q+p;}return p;}int n(int p){return p;}}"}, "A.m()#2"},
		// What surrounds a name stays as it is.
		{files("class A{ int /*f*/ f /*f*/;//f\nint m(){return  ( f ) ;}}"), "A.f", "g", []string{"class A{ int /*f*/ g /*f*/;//f\nint m(){return  ( g ) ;}}"}, "A.g"},
		// Names of different kinds may be equal.
		{files("class A{void m(){m();}}"), "A.m()", "A", []string{"class A{void A(){A();}}"}, "A.A()"},
		{files("class A{int f;void m(){}}"), "A.f", "m", []string{"class A{int m;void m(){}}"}, "A.m"},
		{files("class A{int f;int m(int p){return p;}}"), "A.m()#0", "f", []string{"class A{int f;int m(int f){return f;}}"}, "A.m()#0"},
		{files("class A{int f;void m(){int x=1;}void n(){int y=2;}}"), "A.n()#0", "x", []string{"class A{int f;void m(){int x=1;}void n(){int x=2;}}"}, "A.n()#0"},
		{files("class Main{static void main(){}}"), "Main.main()", "m", []string{"class Main{static void m(){}}"}, "Main.m()"},
	} {
		before := slices.Clone(c.l)
		got, e := rename.Do(c.l, c.id, c.to)
		if e != api.OK || !slices.Equal(texts(got), c.want) {
			t.Errorf("Do(%q, %q, %q) = %q, %d, want %q", texts(c.l), c.id, c.to, texts(got), e, c.want)
		}
		if now, e := rename.New(c.l, c.id, c.to); now != c.now || e != api.OK {
			t.Errorf("New(%q, %q, %q) = %q, %d, want %q", texts(c.l), c.id, c.to, now, e, c.now)
		}
		edits, e := rename.Edits(c.l, c.id, c.to)
		if e != api.OK || len(edits) != len(c.l) {
			t.Fatalf("Edits(%q, %q, %q) = %v, %d", texts(c.l), c.id, c.to, edits, e)
		}
		for i, l := range edits {
			if text, e := span.Apply(c.l[i].Text, l); text != c.want[i] || e != api.OK {
				t.Errorf("Edits(%q, %q, %q) = %v", texts(c.l), c.id, c.to, edits)
			}
		}
		if !slices.Equal(c.l, before) {
			t.Error("an argument was changed")
		}
		for i := range got {
			if got[i].Path != c.l[i].Path {
				t.Errorf("the path %q became %q", c.l[i].Path, got[i].Path)
			}
		}
	}
}

// P25.1
func TestEdits(t *testing.T) {
	l := files("class A{void m(){m();}}", "class C{}", "class B extends A{void m(){int m=1;m=m+1;this.m();}}")
	got, e := rename.Edits(l, "B.m()", "xyz")
	want := "[[{13 14 xyz} {17 18 xyz}] [] [{23 24 xyz} {46 47 xyz}]]"
	if fmt.Sprint(got) != want || e != api.OK {
		t.Errorf("Edits = %v, %d, want %s", got, e, want)
	}
	// The same name is no error here.
	got, e = rename.Edits(l, "C", "C")
	if fmt.Sprint(got) != "[[] [{6 7 C}] []]" || e != api.OK {
		t.Errorf("Edits = %v, %d", got, e)
	}
	got, e = rename.Edits(l, "B.m()#0", "class1")
	if fmt.Sprint(got) != "[[] [] [{31 32 class1} {35 36 class1} {37 38 class1}]]" || e != api.OK {
		t.Errorf("Edits = %v, %d", got, e)
	}
}

// P25.1, P25.2: the errors, in their order.
func TestErrors(t *testing.T) {
	good := files("class A{int f;void m(){}}")
	for _, c := range []struct {
		l      []api.File
		id, to string
		e      api.Errno
	}{
		{files("class A{"), "A", "class", api.ErrSyntax},
		{files("class A{int m(){}}"), "A", "class", api.ErrReturn},
		{files("class A{int f;", "&"), "x", "1", api.ErrSyntax},
		{[]api.File{{Path: ""}}, "x", "1", api.ErrPath},
		{good, "x", "class", api.ErrArg},
		{good, "A.f", "", api.ErrArg},
		{good, "A.f", "1a", api.ErrArg},
		{good, "A.f", "a b", api.ErrArg},
		{good, "A.f", "abcdefghijklmnopqrstu", api.ErrArg},
		{good, "A", "int", api.ErrArg},
		{good, "x", "g", api.ErrNone},
		{good, "", "g", api.ErrNone},
		{good, "A.m", "g", api.ErrNone},
		{good, "A.m()#0", "g", api.ErrNone},
		{nil, "A", "g", api.ErrNone},
	} {
		edits, e1 := rename.Edits(c.l, c.id, c.to)
		got, e2 := rename.Do(c.l, c.id, c.to)
		id, e3 := rename.New(c.l, c.id, c.to)
		if e1 != c.e || e2 != c.e || e3 != c.e || len(edits)+len(got)+len(id) > 0 {
			t.Errorf("%q, %q, %q: %d, %d, %d, want %d", texts(c.l), c.id, c.to, e1, e2, e3, c.e)
		}
	}
}

// P25.2: what is refused.
func TestRefused(t *testing.T) {
	for _, c := range []struct {
		l      []api.File
		id, to string
	}{
		{files("class A{int f;}"), "A.f", "f"},
		{files("class A{int f;}"), "A", "A"},
		// The result is no program.
		{files("class A{int f;int g;}"), "A.f", "g"},
		{files("class A{}class B{}"), "A", "B"},
		{files("class A{void m(){}void n(){}}"), "A.m()", "n"},
		{files("class A{void m(int a,int b){}}"), "A.m()#0", "b"},
		{files("class A{int f;}class B extends A{int g;}"), "B.g", "f"},
		{files("class A{int f;}class B extends A{int g;}"), "A.f", "g"},
		{files("class A{void m(){}}class B extends A{int n(){return 1;}}"), "A.m()", "n"},
		// A name would refer to something else.
		{files("class A{int f;int m(int p){return f;}}"), "A.m()#0", "f"},
		{files("class A{int f;int m(int p){return f;}}"), "A.f", "p"},
		{files("class A{int m(int p){{int q=1;p=q;}return p;}}"), "A.m()#1", "p"},
		{files("class A{static int s;int m(A B){return A.s;}}"), "A.m()#0", "A"},
		{files("class A{static int s;int m(A B){return A.s;}}"), "A", "B"},
		{files("class A{static int s;}class B{A C;int m(){return A.s;}}"), "A", "C"},
		{files("class A{int f;}class B extends A{int m(){return x;}static int x;}"), "A.f", "x"},
		// A method would override another one, or no longer override it.
		{files("class A{void m(){}}class B extends A{void n(){}}"), "B.n()", "m"},
		{files("class A{void m(){}}class B extends A{void n(){}}"), "A.m()", "n"},
		{files("class A{}class B extends A{void m(){}}class C extends B{void n(){}}"), "C.n()", "m"},
	} {
		got, e := rename.Do(c.l, c.id, c.to)
		if e != api.ErrRefused || len(got) != 0 {
			t.Errorf("Do(%q, %q, %q) = %q, %d", texts(c.l), c.id, c.to, texts(got), e)
		}
	}
	// A tree that would be too large.
	l := files("class A{int f;}//" + strings.Repeat("x", api.MaxText-17))
	if got, e := rename.Do(l, "A.f", "gg"); e != api.ErrRefused || len(got) != 0 {
		t.Errorf("%d", e)
	}
	if _, e := rename.Do(l, "A.f", "g"); e != api.OK {
		t.Errorf("%d", e)
	}
}

// P25.3
func TestFree(t *testing.T) {
	for _, c := range []struct {
		l          []api.File
		name, want string
	}{
		{nil, "a", "a"},
		{nil, "", "x"},
		{nil, "class", "x"},
		{nil, "1a", "x"},
		{nil, "a b", "x"},
		{nil, "abcdefghijklmnopqrstu", "x"},
		{nil, "abcdefghijklmnopqrst", "abcdefghijklmnopqrst"},
		{files("a"), "a", "a1"},
		{files("a", "a1 a2 a4"), "a", "a3"},
		{files("x x1"), "int", "x2"},
		{files("// a\n/* a1 */ b"), "a", "a"},
		{files("a &"), "a", "a"},
		{files("/*", "a"), "a", "a1"},
		{files("a1"), "a", "a"},
		{files("a b"), "A", "A"},
		{files("f9"), "f9", "f91"},
		{files("abcdefghijklmnopqrst"), "abcdefghijklmnopqrst", "abcdefghijklmnopqrs1"},
		{files("abcdefghijklmnopqrst abcdefghijklmnopqrs1"), "abcdefghijklmnopqrst", "abcdefghijklmnopqrs2"},
		{files("abcdefghijklmnopqrs"), "abcdefghijklmnopqrs", "abcdefghijklmnopqrs1"},
		{[]api.File{{Path: "-", Text: "a"}, {Path: "-", Text: "a1"}}, "a", "a2"},
	} {
		if got := rename.Free(c.l, c.name); got != c.want {
			t.Errorf("Free(%q, %q) = %q, want %q", texts(c.l), c.name, got, c.want)
		}
	}
	many, long := "a", "abcdefghijklmnopqrst"
	for i := 1; i < 1000; i++ {
		many += fmt.Sprintf(" a%d", i)
		long += fmt.Sprintf(" %s%d", "abcdefghijklmnopqrst"[:20-len(fmt.Sprint(i))], i)
	}
	if got := rename.Free(files(many), "a"); got != "a1000" {
		t.Errorf("%q", got)
	}
	if got := rename.Free(files(long), "abcdefghijklmnopqrst"); got != "abcdefghijklmnop1000" {
		t.Errorf("%q", got)
	}
}

// P25.4
func TestConsequences(t *testing.T) {
	l := files(
		"class Main{static int s;static void main(){A a=new B();a.m(3);print(s);int i=0;while(i<3){i=i+a.n(i).f;print(i);}}}",
		"class A{int f;void m(int p){f=p;Main.s=f+1;}A n(int q){A r=this;r.f=q+1;return r;}}//x\nclass B extends A{void m(int p){f=p*2;Main.s=Main.s+f;}}",
	)
	ran := func(l []api.File) run.Result {
		var nodes [][]api.Node
		for _, f := range l {
			n, _ := parse.File(f.Text)
			nodes = append(nodes, n)
		}
		return run.Program(nodes, 10000)
	}
	want := ran(l)
	if want.E != api.OK || len(want.Out) != 3 {
		t.Fatal(want)
	}
	table, _ := check.Table(l)
	for _, e := range table {
		to := rename.Free(l, e.Name)
		got, errno := rename.Do(l, e.Id, to)
		id, errno2 := rename.New(l, e.Id, to)
		if errno != api.OK || errno2 != api.OK {
			t.Errorf("%s to %s: %d, %d", e.Id, to, errno, errno2)
			continue
		}
		if r := ran(got); e.Name != "Main" && e.Name != "main" && (!run.Same(r, want) || r.Steps != want.Steps) {
			t.Errorf("%s to %s: %v", e.Id, to, r)
		}
		if back, errno := rename.Do(got, id, e.Name); errno != api.OK || !slices.Equal(back, l) {
			t.Errorf("%s to %s and back: %q, %d", e.Id, to, texts(back), errno)
		}
	}
}
