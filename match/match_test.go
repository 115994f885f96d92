package match_test

import (
	"math"
	"slices"
	"strings"
	"testing"

	"concordat/api"
	"concordat/check"
	"concordat/match"
	"concordat/rename"
	"concordat/request"
)

// files returns a tree with the files a, b, c and so on.
func files(texts ...string) []api.File {
	var l []api.File
	for i, text := range texts {
		l = append(l, api.File{Path: string(rune('a' + i)), Text: text})
	}
	return l
}

// shows prints requests.
func shows(l []api.Request) string {
	var out []string
	for _, r := range l {
		out = append(out, request.Show(r))
	}
	return strings.Join(out, ", ")
}

// bad are trees that are no programs.
func bad() [][]api.File {
	return [][]api.File{files("class A{"), files("class A{int m(){}}"), {{Path: ""}}, files("class A{int m(){return x;}}")}
}

// P29.1
func TestLost(t *testing.T) {
	a := files("class A{int f;int m(int p){return 1;}int g;}class B{void m(){}}", "class C{}")
	b := files("class A{int m(int q){int r=1;return r;}int h;int g(){return 1;}}class C{static int f;}class D{int f;}")
	for _, c := range []struct {
		kind       int
		here, back string
	}{
		{api.IsClass, "B", "D"},
		{api.IsField, "A.f A.g", "A.h C.f D.f"},
		{api.IsMethod, "B.m()", "A.g()"},
		{api.IsLocal, "", ""}, {0, "", ""}, {5, "", ""}, {-1, "", ""},
	} {
		if got := match.Lost(a, b, c.kind); strings.Join(got, " ") != c.here {
			t.Errorf("Lost(a, b, %d) = %q", c.kind, got)
		}
		if got := match.Lost(b, a, c.kind); strings.Join(got, " ") != c.back {
			t.Errorf("Lost(b, a, %d) = %q", c.kind, got)
		}
	}
	if got := match.Lost(a, nil, api.IsField); strings.Join(got, " ") != "A.f A.g" {
		t.Errorf("%q", got)
	}
	// In the order of the table, that is, of the files.
	if got := match.Lost(files("class Z{}", "class Y{}class X{}"), nil, api.IsClass); strings.Join(got, " ") != "Z Y X" {
		t.Errorf("%q", got)
	}
	for _, l := range bad() {
		if got, got2 := match.Lost(a, l, api.IsClass), match.Lost(l, nil, api.IsClass); len(got)+len(got2) != 0 {
			t.Errorf("%q, %q", got, got2)
		}
	}
}

// P29.2
func TestPair(t *testing.T) {
	for _, c := range []struct {
		a, b  []api.File
		id    string
		least int
		want  string
	}{
		{files("class A{int f;}"), files("class A{int g;}"), "A.f", 100, "A.g"},
		{files("class A{int f;}"), files("class A{int g;}"), "A.f", 101, ""},
		{files("class A{int f;}"), files("class A{boolean g;}"), "A.f", 67, ""},
		{files("class A{int f;}"), files("class A{boolean g;}"), "A.f", 66, "A.g"},
		// An entity that b still has may be paired as well, one that a has is no candidate.
		{files("class A{int f;}"), files("class A{int f;int g;}"), "A.f", 100, "A.g"},
		{files("class A{int f;int g;}"), files("class A{int g;}"), "A.f", 0, ""},
		{files("class A{int f;}"), files("class A{int f;}"), "A.f", math.MinInt, ""},
		// The most similar one; the first one of several.
		{files("class A{int f;}"), files("class A{boolean g;int h;int i;}"), "A.f", 0, "A.h"},
		{files("class A{int f;}"), files("class A{boolean g;A h;}"), "A.f", 0, "A.g"},
		{files("class A{int m(){return 1;}}"), files("class A{int k(){return 2;}int l(){return 1;}int n(){return 1;}}"), "A.m()", 60, "A.l()"},
		// The names of both are erased, others are not.
		{files("class A{int m(int n){return m(n);}}"), files("class A{int k(int n){return k(n);}}"), "A.m()", 100, "A.k()"},
		{files("class A{int m(int n){return m(n);}}"), files("class A{int k(int i){return k(i);}}"), "A.m()", 100, ""},
		// The same owner, kind, and static or not.
		{files("class A{int f;}"), files("class A{static int g;}"), "A.f", 0, ""},
		{files("class A{static int f;}"), files("class A{int g;static int h;}"), "A.f", 0, "A.h"},
		{files("class A{int f;}class B{}"), files("class A{}class B{int g;}"), "A.f", 0, ""},
		{files("class A{int f;}"), files("class A{int g(){return 1;}}"), "A.f", 0, ""},
		{files("class A{void m(){}}"), files("class A{static void k(){}}"), "A.m()", 0, ""},
		// Classes need nothing in common but what they look like.
		{files("class A{int f;}class B{}"), files("class C{}class D{int f;}"), "A", 0, "D"},
		{files("class A{int f;}class B{}"), files("class C{}class D{int f;}"), "B", 60, "C"},
		{files("class A{}"), files("class B{}", "class C{}"), "A", 100, "B"},
		{files("class A{A a;}"), files("class B{B a;}"), "A", 100, "B"},
		{files("class X{}class A extends X{}"), files("class X{}class B{}"), "A", 100, ""},
		// What is no class, field or method of a.
		{files("class A{int m(int p){return 1;}}"), files("class A{int m(int q){return 1;}}"), "A.m()#0", 0, ""},
		{files("class A{int f;}"), files("class B{int f;}"), "A.g", 0, ""},
		{files("class A{int f;}"), files("class B{int f;}"), "B", 0, ""},
		{files("class A{int f;}"), files("class B{int f;}"), "", 0, ""},
	} {
		if got, is := match.Pair(c.a, c.b, c.id, c.least); got != c.want || is != (c.want != "") {
			t.Errorf("Pair(%v, %v, %q, %d) = %q, %t, want %q", c.a, c.b, c.id, c.least, got, is, c.want)
		}
	}
	for _, l := range bad() {
		got, is := match.Pair(files("class A{int f;}"), l, "A", 0)
		got2, is2 := match.Pair(l, files("class B{}"), "A", 0)
		if got+got2 != "" || is || is2 {
			t.Errorf("Pair with %v: %q, %q", l, got, got2)
		}
	}
}

// P29.3
func TestDetect(t *testing.T) {
	body := "int a=p;while(a<10){a=a+1;}return a*2;"
	for _, c := range []struct {
		a, b []api.File
		want string
	}{
		{nil, nil, ""},
		{files("class A{int f;}"), files("class A{int g;}"), "rename A.f to g"},
		{files("class A{int f;}"), files("class A{boolean g;}"), ""},
		{files("class A{int f;}"), files("class A{}"), ""},
		{files("class A{}"), files("class A{int f;}"), ""},
		// Classes, whose members follow.
		{files("class A{int f;int m(){return f;}}"), files("class B{int f;int m(){return f;}}"), "rename A to B"},
		{files("class A{int f;int m(){return f;}}"), files("class B{int g;int m(){return g;}}"), "rename A to B, rename B.f to g"},
		{files("class A{int f;}class B extends A{A a;}"), files("class C{int f;}class D extends C{C a;}"), "rename A to C, rename B to D"},
		{files("class A{}class B{int f;}"), files("class C{int f;}class D{}"), "rename A to D, rename B to C"},
		// Methods that resemble each other enough.
		{files("class A{int m(int p){" + body + "}}"), files("class A{int k(int p){" + body + "}}"), "rename A.m() to k"},
		{files("class A{int m(int p){" + body + "}}"), files("class A{int k(int p){print(p);" + body + "}}"), "rename A.m() to k"},
		{files("class A{int m(int p){" + body + "}}"), files("class A{void k(){print(1);print(true);}}"), ""},
		{files("class A{void m(){}}class B extends A{void m(){}}"), files("class A{void k(){}}class B extends A{void k(){}}"), "rename A.m() to k"},
		// Fields come before methods.
		{files("class A{int m(){return f;}int f;}"), files("class A{int k(){return g;}int g;}"), "rename A.f to g, rename A.m() to k"},
		// Each field is renamed to the first one that is left.
		{files("class A{int f;int g;boolean b;}"), files("class A{int h;boolean c;int i;}"), "rename A.f to h, rename A.g to i, rename A.b to c"},
		// A rename that is refused is not recorded.
		{files("class A{int f;int m(int g){return f;}}"), files("class A{int g;int m(int g){return this.g;}}"), ""},
		// Moves of static members.
		{files("class A{static int s;int m(){return s;}}class B{}"), files("class A{int m(){return B.s;}}class B{static int s;}"), "move-member A.s to B"},
		{files("class A{static int s;}class B{}"), files("class A{}class B{int s;}"), ""},
		{files("class A{int s;}class B{}"), files("class A{}class B{static int s;}"), ""},
		{files("class A{static int s;}class B{}"), files("class A{}class B{static int t;}"), ""},
		{files("class A{static int s;}"), files("class A{}class B{static int s;}"), ""},
		{files("class A{static int s;}class B{}"), files("class A{}class B{static boolean s;}"), "move-member A.s to B"},
		{files("class A{static int s;}class B{}"), files("class A{}class B{static boolean s;}class C{}"), "move-member A.s to B"},
		{files("class A{static int s;}class B{}class C{}"), files("class A{}class C{static int s;}class B{static int s;}"), "move-member A.s to C"},
		{files("class A{static void m(int p){print(p);}}class B{}"), files("class A{}class B{static void m(int p){print(p+1);}}"), "move-member A.m() to B"},
		{files("class A{static void m(){print(1);print(2);}}class B{}"), files("class A{}class B{static int m(int p){return p;}}"), ""},
		{files("class A{static int s;static int m(){return s;}}class B{}"), files("class A{}class B{static int m(){return s;}static int s;}"), "move-member A.s to B, move-member A.m() to B"},
		{files("class A{static int s;}class B{}"), files("class C{}class D{static int s;}"), "rename A to D, rename B to C"},
		// A member that is renamed is not moved.
		{files("class A{static int s;}class B{}"), files("class A{static int t;}class B{static int s;}"), "rename A.s to t"},
		// Classes in other files.
		{files("class A{}class B{}"), files("class A{}", "class B{}"), "move-class B to b"},
		{files("class A{}", "class B{}"), files("class B{}", "class A{}"), "move-class A to b, move-class B to a"},
		{files("class A{int f;}", ""), files("", "class C{int g;}"), "rename A to C, rename C.f to g, move-class C to b"},
		{files("class A{}"), nil, ""},
		// All of it.
		{files("class A{static int s;int f;int m(int p){"+body+"}}class B{}", ""), files("class C{int g;int k(int p){"+body+"}}", "class B{static int s;}"), "rename A to C, rename C.f to g, rename C.m() to k, move-member C.s to B, move-class B to b"},
	} {
		got := match.Detect(c.a, c.b)
		if shows(got) != c.want {
			t.Errorf("Detect(%v, %v) = %s, want %s", c.a, c.b, shows(got), c.want)
		}
		tree, _, e := request.All(c.a, got)
		if e != api.OK || !slices.Equal(match.Replay(c.a, c.b), tree) {
			t.Errorf("Replay(%v, %v) = %v", c.a, c.b, match.Replay(c.a, c.b))
		}
	}
	good := files("class A{}")
	for _, l := range bad() {
		if got := match.Detect(good, l); len(got) != 0 {
			t.Errorf("Detect = %s", shows(got))
		}
		if got := match.Detect(l, good); len(got) != 0 {
			t.Errorf("Detect = %s", shows(got))
		}
		if got := match.Replay(good, l); !slices.Equal(got, good) {
			t.Errorf("Replay = %v", got)
		}
		got := match.Replay(l, good)
		if !slices.Equal(got, l) {
			t.Errorf("Replay = %v", got)
		}
		got[0].Text = "changed"
		if l[0].Text == "changed" {
			t.Error("the result of Replay shares memory with its argument")
		}
	}
}

// P29.4
func TestConsequences(t *testing.T) {
	l := files(
		"class Main{static int s;static void main(){A a=new B();a.m(3);print(s);}}",
		"class A{int f;boolean g;A h;void m(int p){f=p;Main.s=f+1;}A n(int q){A r=this;r.f=q+1;return r;}}class B extends A{void m(int p){f=p*2;Main.s=Main.s+f;}}",
	)
	if got := match.Detect(l, l); len(got) != 0 {
		t.Errorf("%s", shows(got))
	}
	if got := match.Replay(l, l); !slices.Equal(got, l) {
		t.Errorf("%v", got)
	}
	table, _ := check.Table(l)
	for _, e := range table {
		if e.Kind == api.IsLocal {
			continue
		}
		to := rename.Free(l, e.Name)
		b, errno := rename.Do(l, e.Id, to)
		if errno != api.OK {
			t.Fatal(e.Id, errno)
		}
		if got := match.Detect(l, b); len(got) != 1 || got[0].To != to {
			t.Errorf("%s to %s: %s", e.Id, to, shows(got))
		}
		if got := match.Replay(l, b); !slices.Equal(got, b) {
			t.Errorf("%s to %s: %v", e.Id, to, got)
		}
	}
}
