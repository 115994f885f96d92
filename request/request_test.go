package request_test

import (
	"math"
	"slices"
	"strings"
	"testing"

	"concordat/api"
	"concordat/check"
	"concordat/request"
)

// files returns a tree with the files a, b, c and so on.
func files(texts ...string) []api.File {
	var l []api.File
	for i, text := range texts {
		l = append(l, api.File{Path: string(rune('a' + i)), Text: text})
	}
	return l
}

func rename(id, to string) api.Request     { return api.Request{Kind: api.Rename, Id: id, To: to} }
func moveMember(id, to string) api.Request { return api.Request{Kind: api.MoveMember, Id: id, To: to} }
func moveClass(id, to string) api.Request  { return api.Request{Kind: api.MoveClass, Id: id, To: to} }

// base is a program with everything that can be asked for.
func base() []api.File {
	return files("class A{static int s;int f;int m(int p){int q=p;return q+f+s;}}", "class B extends A{int m(int p){return A.s;}}class C{}")
}

// P27.1
func TestDo(t *testing.T) {
	for _, c := range []struct {
		r, undo api.Request
		want    []string
	}{
		{rename("A.f", "g"), rename("A.g", "f"), []string{"class A{static int s;int g;int m(int p){int q=p;return q+g+s;}}", "class B extends A{int m(int p){return A.s;}}class C{}"}},
		{rename("A", "D"), rename("D", "A"), []string{"class D{static int s;int f;int m(int p){int q=p;return q+f+s;}}", "class B extends D{int m(int p){return D.s;}}class C{}"}},
		{rename("B.m()", "k"), rename("B.k()", "m"), []string{"class A{static int s;int f;int k(int p){int q=p;return q+f+s;}}", "class B extends A{int k(int p){return A.s;}}class C{}"}},
		{rename("A.m()#1", "x"), rename("A.m()#1", "q"), []string{"class A{static int s;int f;int m(int p){int x=p;return x+f+s;}}", "class B extends A{int m(int p){return A.s;}}class C{}"}},
		{moveMember("A.s", "C"), moveMember("C.s", "A"), []string{"class A{int f;int m(int p){int q=p;return q+f+C.s;}}", "class B extends A{int m(int p){return C.s;}}class C{\nstatic int s;\n}"}},
		{moveClass("B", "a"), moveClass("B", "b"), []string{"class A{static int s;int f;int m(int p){int q=p;return q+f+s;}}\nclass B extends A{int m(int p){return A.s;}}\n", "class C{}"}},
	} {
		l := base()
		got, undo, e := request.Do(l, c.r)
		if e != api.OK || undo != c.undo || !slices.Equal(got, files(c.want...)) {
			t.Errorf("Do(%v) = %q, %v, %d", c.r, got, undo, e)
		}
		if !slices.Equal(l, base()) {
			t.Error("an argument was changed")
		}
	}
	static := files("class A{static int m(){return 1;}}class B{}")
	if _, undo, e := request.Do(static, moveMember("A.m()", "B")); undo != moveMember("B.m()", "A") || e != api.OK {
		t.Errorf("%v, %d", undo, e)
	}
}

// P27.1
func TestErrors(t *testing.T) {
	for _, c := range []struct {
		l []api.File
		r api.Request
		e api.Errno
	}{
		{base(), rename("A.f", "class"), api.ErrArg},
		{base(), rename("A.x", "g"), api.ErrNone},
		{base(), rename("A.f", "s"), api.ErrRefused},
		{base(), rename("A.f", "f"), api.ErrRefused},
		{base(), moveMember("A.f", "C"), api.ErrRefused},
		{base(), moveMember("A.s", "A"), api.ErrRefused},
		{base(), moveMember("A.s", "D"), api.ErrNone},
		{base(), moveClass("D", "a"), api.ErrNone},
		{base(), moveClass("C", ""), api.ErrArg},
		{base(), moveClass("C", "b"), api.ErrRefused},
		{files("class A{"), rename("A", "B"), api.ErrSyntax},
		{files("class A{"), moveMember("A", "B"), api.ErrSyntax},
		{files("class A{"), moveClass("A", "b"), api.ErrSyntax},
		{base(), api.Request{}, api.ErrArg},
		{base(), api.Request{Kind: 4, Id: "A.f", To: "g"}, api.ErrArg},
		{base(), api.Request{Kind: -1, Id: "A.f", To: "g"}, api.ErrArg},
		{files("class A{"), api.Request{Kind: math.MaxInt}, api.ErrArg},
	} {
		got, undo, e := request.Do(c.l, c.r)
		if e != c.e || len(got) != 0 || undo != (api.Request{}) {
			t.Errorf("Do(%v) = %q, %v, %d, want %d", c.r, got, undo, e, c.e)
		}
		got, undos, e := request.All(c.l, []api.Request{c.r})
		if e != c.e || len(got) != 0 || len(undos) != 0 {
			t.Errorf("All(%v) = %q, %v, %d, want %d", c.r, got, undos, e, c.e)
		}
		got, done := request.Some(c.l, []api.Request{c.r})
		if !slices.Equal(got, c.l) || len(done) != 0 {
			t.Errorf("Some(%v) = %q, %v", c.r, got, done)
		}
		if got := request.Id(c.l, c.r, "A.f"); got != "A.f" {
			t.Errorf("Id(%v) = %q", c.r, got)
		}
	}
}

// P27.2
func TestAllAndSome(t *testing.T) {
	rs := []api.Request{rename("A", "D"), rename("D.s", "t"), moveMember("D.t", "C"), moveClass("C", "c"), rename("C.t", "u"), moveMember("C.u", "B")}
	want := files("class D{int f;int m(int p){int q=p;return q+f+B.u;}}", "class B extends D{int m(int p){return B.u;}\nstatic int u;\n}", "class C{\n\n}\n")
	undo := []api.Request{moveMember("B.u", "C"), rename("C.u", "t"), moveClass("C", "b"), moveMember("C.t", "D"), rename("D.t", "s"), rename("D", "A")}
	got, back, e := request.All(base(), rs)
	if e != api.OK || !slices.Equal(back, undo) || !slices.Equal(got, want) {
		t.Errorf("All = %q, %v, %d", got, back, e)
	}
	got, done := request.Some(base(), rs)
	if !slices.Equal(done, rs) || !slices.Equal(got, want) {
		t.Errorf("Some = %q, %v", got, done)
	}
	// One that can't be performed, in the midst of others.
	bad := slices.Insert(slices.Clone(rs), 2, rename("A", "E"))
	if got, back, e := request.All(base(), bad); e != api.ErrNone || len(got) != 0 || len(back) != 0 {
		t.Errorf("All = %q, %v, %d", got, back, e)
	}
	bad = append(bad, rename("C", "C"), api.Request{})
	got, done = request.Some(base(), bad)
	if !slices.Equal(done, rs) || !slices.Equal(got, want) {
		t.Errorf("Some = %q, %v", got, done)
	}
	// The first error counts.
	if _, _, e := request.All(base(), []api.Request{rename("A", "class"), rename("X", "Y")}); e != api.ErrArg {
		t.Errorf("%d", e)
	}
	// Without requests the tree need not even be a program.
	for _, l := range [][]api.File{nil, base(), files("class A{"), {{Path: "b"}, {Path: "a"}}} {
		got, back, e := request.All(l, nil)
		if !slices.Equal(got, l) || len(back) != 0 || e != api.OK {
			t.Errorf("All = %q, %v, %d", got, back, e)
		}
		some, done := request.Some(l, nil)
		if !slices.Equal(some, l) || len(done) != 0 {
			t.Errorf("Some = %q, %v", some, done)
		}
		if len(l) > 0 {
			before := l[0]
			got[0].Text, some[0].Text = "changed", "changed"
			if l[0] != before {
				t.Error("a result shares memory with an argument")
			}
		}
	}
}

// P27.3
func TestShowAndRead(t *testing.T) {
	for _, c := range []struct {
		r    api.Request
		want string
		back bool
	}{
		{rename("A.f", "g"), "rename A.f to g", true},
		{moveMember("A.m()", "B"), "move-member A.m() to B", true},
		{moveClass("A", "a/b.x"), "move-class A to a/b.x", true},
		{rename("to", "to"), "rename to to to", true},
		{rename("\n", "é\t"), "rename \n to é\t", true},
		{rename("", "g"), "rename  to g", false},
		{rename("A.f", ""), "rename A.f to ", false},
		{rename("a b", "c"), "rename a b to c", false},
		{rename("a", "b to c"), "rename a to b to c", false},
		{rename(" ", "c"), "rename   to c", false},
		{api.Request{}, "", false},
		{api.Request{Kind: 4, Id: "a", To: "b"}, "", false},
		{api.Request{Kind: -1, Id: "a", To: "b"}, "", false},
	} {
		got := request.Show(c.r)
		if got != c.want {
			t.Errorf("Show(%v) = %q, want %q", c.r, got, c.want)
		}
		r, is := request.Read(got)
		if is != c.back || is && r != c.r || !is && r != (api.Request{}) {
			t.Errorf("Read(%q) = %v, %t", got, r, is)
		}
	}
	for _, s := range []string{"", "rename", "rename A.f", "rename A.f to", "rename A.f to g ", " rename A.f to g", "rename  A.f to g", "rename A.f  to g", "rename A.f to  g", "rename A.f To g", "Rename A.f to g", "move A.f to g", "move-member", "rename A.f g to", "rename A.f to g h", "renameA.f to g"} {
		if r, is := request.Read(s); is || r != (api.Request{}) {
			t.Errorf("Read(%q) = %v, %t", s, r, is)
		}
	}
}

// P27.4
func TestId(t *testing.T) {
	for _, c := range []struct {
		r   api.Request
		ids map[string]string
	}{
		{rename("A", "D"), map[string]string{"A": "D", "A.f": "D.f", "A.m()": "D.m()", "A.m()#1": "D.m()#1", "B": "B", "AA": "AA", "": ""}},
		{rename("B.m()", "k"), map[string]string{"A.m()": "A.k()", "B.m()": "B.k()", "A.m()#0": "A.k()#0", "B.m()#0": "B.k()#0", "A.m": "A.m", "C.m()": "C.m()"}},
		{rename("A.f", "g"), map[string]string{"A.f": "A.g", "B.f": "B.f", "A.ff": "A.ff"}},
		{rename("A.m()#0", "x"), map[string]string{"A.m()#0": "A.m()#0", "A.m()": "A.m()"}},
		{moveMember("A.s", "C"), map[string]string{"A.s": "C.s", "A": "A", "A.f": "A.f", "A.s.x": "C.s.x"}},
		{moveClass("B", "c"), map[string]string{"B": "B", "B.m()": "B.m()"}},
		{rename("A.f", "s"), map[string]string{"A.f": "A.f"}},
		{api.Request{}, map[string]string{"A.f": "A.f"}},
	} {
		for id, want := range c.ids {
			if got := request.Id(base(), c.r, id); got != want {
				t.Errorf("Id(%v, %q) = %q, want %q", c.r, id, got, want)
			}
		}
	}
	static := files("class A{static int m(int p){return p;}}class B{}")
	if got := request.Id(static, moveMember("A.m()", "B"), "A.m()#0"); got != "B.m()#0" {
		t.Errorf("%q", got)
	}
}

// P27.5
func TestConsequence(t *testing.T) {
	before, _ := check.Ids(base())
	slices.Sort(before)
	for _, r := range []api.Request{rename("A", "D"), rename("A.m()", "k"), rename("A.f", "h"), rename("B.m()#0", "z"), moveMember("A.s", "C"), moveMember("A.s", "B"), moveClass("A", "b"), moveClass("C", "x")} {
		got, undo, e := request.Do(base(), r)
		if e != api.OK {
			t.Errorf("%v: %d", r, e)
			continue
		}
		back, again, e := request.Do(got, undo)
		if e != api.OK || again != r {
			t.Errorf("%v is undone by %v, and that by %v, %d", r, undo, again, e)
		}
		ids, _ := check.Ids(back)
		slices.Sort(ids)
		// A name that was bare before may stand behind its class now.
		for _, id := range before {
			if i := slices.Index(ids, id); i >= 0 {
				ids = slices.Delete(ids, i, i+1)
			} else {
				t.Errorf("%v undone: %q is missing", r, id)
			}
		}
		if s := strings.Join(ids, " "); r.Kind != api.MoveMember && s != "" {
			t.Errorf("%v undone: %q in addition", r, s)
		}
	}
}
