package bind_test

import (
	"math"
	"reflect"
	"slices"
	"strconv"
	"strings"
	"testing"

	"concordat/api"
	"concordat/bind"
	"concordat/decls"
	"concordat/parse"
)

// files parses texts.
func files(t *testing.T, texts ...string) [][]api.Node {
	t.Helper()
	var out [][]api.Node
	for _, text := range texts {
		l, m := parse.File(text)
		if m.Code != api.OK {
			t.Fatal(text, m)
		}
		out = append(out, l)
	}
	return out
}

// expression parses an expression.
func expression(t *testing.T, text string) api.Node {
	t.Helper()
	n, m := parse.Expression(text)
	if m.Code != api.OK {
		t.Fatal(text, m)
	}
	return n
}

const program = `class A{int f;static int s;A a;int m(int p){return p;}static B t(){return new B();}boolean q(){return true;}void v(){}}
class B extends A{B b;static A c;int m(int p){return f;}int f(){return 1;}}
class C{int x;}`

// scopes returns some places in the program.
func scopes(t *testing.T) map[string]bind.Scope {
	t.Helper()
	table, m := decls.Table(files(t, program))
	if m.Code != api.OK {
		t.Fatal(m)
	}
	seen := []api.Entity{
		{Kind: api.IsLocal, Id: "B.m()#0", Name: "p", Type: "int"},
		{Kind: api.IsLocal, Id: "B.m()#1", Name: "b", Type: "A", Params: []string{"x"}},
		{Kind: api.IsLocal, Id: "B.m()#2", Name: "p", Type: "B"},
		{Kind: api.IsLocal, Id: "B.m()#3", Name: "C", Type: "A"},
	}
	return map[string]bind.Scope{
		"B":      {Table: table, Class: "B", Seen: seen},
		"static": {Table: table, Class: "B", Static: true, Seen: seen[:3]},
		"A":      {Table: table, Class: "A"},
		"none":   {Table: table},
	}
}

// P17.1, P17.2
func TestEntityAndType(t *testing.T) {
	all := scopes(t)
	for _, c := range []struct {
		scope, text string
		id          string
		e           api.Errno
		kind        string
	}{
		// Names: locals from the last one backwards, fields, classes.
		{"B", "p", "B.m()#2", api.OK, "B"},
		{"B", "b", "B.m()#1", api.OK, "A"},
		{"A", "p", "", api.ErrName, ""},
		{"A", "f", "A.f", api.OK, "int"},
		{"B", "f", "A.f", api.OK, "int"},
		{"B", "s", "A.s", api.OK, "int"},
		{"B", "c", "B.c", api.OK, "A"},
		{"A", "c", "", api.ErrName, ""},
		{"A", "b", "", api.ErrName, ""},
		{"static", "f", "", api.ErrStatic, ""},
		{"static", "s", "A.s", api.OK, "int"},
		{"static", "c", "B.c", api.OK, "A"},
		{"static", "p", "B.m()#2", api.OK, "B"},
		{"static", "a", "", api.ErrStatic, ""},
		{"A", "C", "C", api.OK, ""},
		{"B", "C", "B.m()#3", api.OK, "A"},
		{"A", "x", "", api.ErrName, ""},
		{"A", "m", "", api.ErrName, ""},
		{"none", "f", "", api.ErrName, ""},
		{"none", "A", "A", api.OK, ""},
		// Calls.
		{"B", "m(1)", "B.m()", api.OK, "int"},
		{"A", "m(1)", "A.m()", api.OK, "int"},
		{"B", "t()", "A.t()", api.OK, "B"},
		{"B", "v()", "A.v()", api.OK, "void"},
		{"static", "m(1)", "", api.ErrStatic, ""},
		{"static", "t()", "A.t()", api.OK, "B"},
		{"B", "f()", "B.f()", api.OK, "int"},
		{"A", "f()", "", api.ErrName, ""},
		{"A", "a()", "", api.ErrName, ""},
		{"none", "m(1)", "", api.ErrName, ""},
		// New.
		{"A", "new C()", "C", api.OK, "C"},
		{"B", "new C()", "C", api.OK, "C"},
		{"A", "new D()", "", api.ErrName, ""},
		{"A", "new f()", "", api.ErrName, ""},
		// Dots behind the name of a class.
		{"A", "A.s", "A.s", api.OK, "int"},
		{"A", "B.s", "A.s", api.OK, "int"},
		{"A", "B.c", "B.c", api.OK, "A"},
		{"A", "A.c", "", api.ErrName, ""},
		{"A", "A.f", "", api.ErrStatic, ""},
		{"A", "B.t()", "A.t()", api.OK, "B"},
		{"A", "B.m(1)", "", api.ErrStatic, ""},
		{"A", "C.s", "", api.ErrName, ""},
		{"A", "(A).s", "A.s", api.OK, "int"},
		{"none", "A.s", "A.s", api.OK, "int"},
		// Dots behind something that has a type.
		{"A", "a.f", "A.f", api.OK, "int"},
		{"A", "a.s", "A.s", api.OK, "int"},
		{"A", "a.a.a.f", "A.f", api.OK, "int"},
		{"B", "p.b", "B.b", api.OK, "B"},
		{"B", "b.b", "", api.ErrName, ""},
		{"B", "C.f", "A.f", api.OK, "int"},
		{"B", "C.x", "", api.ErrName, ""},
		{"A", "this.f", "A.f", api.OK, "int"},
		{"static", "this.f", "", api.ErrType, ""},
		{"A", "t().b.c.q()", "A.q()", api.OK, "boolean"},
		{"A", "new B().m(1)", "B.m()", api.OK, "int"},
		{"A", "new D().f", "", api.ErrType, ""},
		{"A", "f.f", "", api.ErrType, ""},
		{"A", "v().f", "", api.ErrType, ""},
		{"A", "null.f", "", api.ErrType, ""},
		{"A", "1.f", "", api.ErrType, ""},
		{"A", "(1+1).f()", "", api.ErrType, ""},
		{"A", "x.f", "", api.ErrType, ""},
		{"A", "x.f.f", "", api.ErrType, ""},
		{"A", "A.c.f", "", api.ErrType, ""},
		{"A", "a.x.f", "", api.ErrType, ""},
		{"static", "a.f", "", api.ErrType, ""},
		{"A", "a.m", "", api.ErrName, ""},
		{"A", "a.f()", "", api.ErrName, ""},
		// Expressions that are no names.
		{"A", "1", "", api.OK, "int"},
		{"A", "-x", "", api.OK, "int"},
		{"A", "true", "", api.OK, "boolean"},
		{"A", "!x", "", api.OK, "boolean"},
		{"A", "null", "", api.OK, "null"},
		{"A", "this", "", api.OK, "A"},
		{"static", "this", "", api.OK, ""},
		{"none", "this", "", api.OK, ""},
		{"A", "x+y", "", api.OK, "int"},
		{"A", "x-y", "", api.OK, "int"},
		{"A", "x*y", "", api.OK, "int"},
		{"A", "x/y", "", api.OK, "int"},
		{"A", "x%y", "", api.OK, "int"},
		{"A", "x<y", "", api.OK, "boolean"},
		{"A", "x>=y", "", api.OK, "boolean"},
		{"A", "x==y", "", api.OK, "boolean"},
		{"A", "x!=y", "", api.OK, "boolean"},
		{"A", "x&&y", "", api.OK, "boolean"},
		{"A", "x||y", "", api.OK, "boolean"},
	} {
		n, s := expression(t, c.text), all[c.scope]
		e, errno := s.Entity(n)
		if e.Id != c.id || errno != c.e || errno != api.OK && !reflect.DeepEqual(e, api.Entity{}) {
			t.Errorf("Entity(%q) in %s = %v, %d, want %q, %d", c.text, c.scope, e, errno, c.id, c.e)
		}
		if got := s.Type(n); got != c.kind {
			t.Errorf("Type(%q) in %s = %q, want %q", c.text, c.scope, got, c.kind)
		}
	}
}

// P17.1, P17.2: nodes that parse never returns.
func TestOtherNodes(t *testing.T) {
	s := scopes(t)["A"]
	for _, kind := range []int{0, api.Class, api.Field, api.Method, api.Param, api.Block, api.Local, api.Set, api.Do, api.If, api.While, api.Return, api.Print, 25, -1} {
		n := api.Node{Kind: kind, Text: "A", Type: "A"}
		if e, errno := s.Entity(n); !reflect.DeepEqual(e, api.Entity{}) || errno != api.OK {
			t.Errorf("Entity of the kind %d = %v, %d", kind, e, errno)
		}
		if got := s.Type(n); got != "" {
			t.Errorf("Type of the kind %d = %q", kind, got)
		}
	}
	for _, kind := range []int{api.Dot, api.DotCall} {
		n := api.Node{Kind: kind, Text: "f"}
		if e, errno := s.Entity(n); !reflect.DeepEqual(e, api.Entity{}) || errno != api.ErrType || s.Type(n) != "" {
			t.Errorf("Entity of a dot without Kids = %v, %d", e, errno)
		}
	}
	if got := s.Type(api.Node{Kind: api.Binary, Text: "?"}); got != "boolean" {
		t.Errorf("Type = %q", got)
	}
	// The first class with an id counts, and a class is never empty.
	two := bind.Scope{Table: []api.Entity{{Kind: api.IsClass, Id: ""}, {Kind: api.IsField, Id: "A"}, {Kind: api.IsClass, Id: "A", At: 1}, {Kind: api.IsClass, Id: "A", At: 2}, {Kind: api.IsField, Id: ".f", Name: "f"}}}
	if e, errno := two.Entity(api.Node{Kind: api.New, Text: "A"}); e.At != 1 || errno != api.OK {
		t.Errorf("%v, %d", e, errno)
	}
	if e, errno := two.Entity(api.Node{Kind: api.Dot, Text: "f", Kids: []api.Node{{Kind: api.Block}}}); errno != api.ErrType {
		t.Errorf("%v, %d", e, errno)
	}
	// A deep chain of dots.
	n := api.Node{Kind: api.This}
	for range 10000 {
		n = api.Node{Kind: api.Dot, Text: "a", Kids: []api.Node{n}}
	}
	if got := s.Type(n); got != "A" {
		t.Errorf("Type of a deep chain = %q", got)
	}
	for range 500000 {
		n = api.Node{Kind: api.Not, Kids: []api.Node{n}}
	}
	if got := s.Type(n); got != "boolean" {
		t.Errorf("Type of a deep tree = %q", got)
	}
}

// uses prints uses.
func uses(l []api.Use) string {
	var out []string
	for _, u := range l {
		out = append(out, strconv.Itoa(u.File)+":"+strconv.Itoa(u.At)+" "+u.Id)
	}
	return strings.Join(out, ", ")
}

// P17.3
func TestUses(t *testing.T) {
	for _, c := range []struct {
		texts []string
		want  string
	}{
		{nil, ""},
		{[]string{"", ""}, ""},
		{[]string{"class A{int f;int m(A a){return a.f;}}"}, "0:6 A, 0:12 A.f, 0:18 A.m(), 0:20 A, 0:22 A.m()#0, 0:32 A.m()#0, 0:34 A.f"},
		{[]string{"class B extends A{}", "class A{}"}, "0:6 B, 0:16 A, 1:6 A"},
		{[]string{"class A{static A a;A m(){return new A();}}"}, "0:6 A, 0:15 A, 0:17 A.a, 0:19 A, 0:21 A.m(), 0:36 A"},
		{[]string{"class A{int m(int p){return m(p)+this.m(A.k().m(p));}static A k(){return null;}}"},
			"0:6 A, 0:12 A.m(), 0:18 A.m()#0, 0:28 A.m(), 0:30 A.m()#0, 0:38 A.m(), 0:40 A, 0:42 A.k(), 0:46 A.m(), 0:48 A.m()#0, 0:60 A, 0:62 A.k()"},
		// Locals, and what they hide, from their own end up to the end of their block.
		{[]string{"class A{int x;void m(){int y=x;{int x=y;x=1;}x=2;int x=x;x=3;}}"},
			"0:6 A, 0:12 A.x, 0:19 A.m(), 0:27 A.m()#0, 0:29 A.x, 0:36 A.m()#1, 0:38 A.m()#0, 0:40 A.m()#1, 0:45 A.x, 0:53 A.m()#2, 0:55 A.x, 0:57 A.m()#2"},
		{[]string{"class A{A A;A A(A A){return A.A(A);}}"},
			"0:6 A, 0:8 A, 0:10 A.A, 0:12 A, 0:14 A.A(), 0:16 A, 0:18 A.A()#0, 0:28 A.A()#0, 0:30 A.A(), 0:32 A.A()#0"},
		{[]string{"class A{void m(int a){}void n(int a){int b=a;}}"}, "0:6 A, 0:13 A.m(), 0:19 A.m()#0, 0:28 A.n(), 0:34 A.n()#0, 0:41 A.n()#1, 0:43 A.n()#0"},
	} {
		l, m := bind.Uses(files(t, c.texts...))
		if uses(l) != c.want || m != (api.Mistake{}) {
			t.Errorf("%q: %s, %v, want %s", c.texts, uses(l), m, c.want)
		}
	}
}

// P17.3: the first mistake, in the order of the traversal.
func TestMistakes(t *testing.T) {
	for _, c := range []struct {
		texts []string
		code  api.Errno
		file  int
		mark  string // where: the bytes behind the first ^ in the texts
	}{
		// Those of the table and of inheritance come first.
		{[]string{"class B{int f(){return ^x;}}", "class A{int f;int f;}"}, api.ErrTwice, 1, "f;}"},
		{[]string{"class B{int f(){return x;}}class ^C extends D{}"}, api.ErrSuper, 0, ""},
		{[]string{"class A{int f;}class B extends A{int m(){return x;}int ^f;}"}, api.ErrHide, 0, ""},
		{[]string{"class A{int f(){return x;}}class B extends A{void ^f(){}}"}, api.ErrOver, 0, ""},
		// Types.
		{[]string{"class A{^B f;}"}, api.ErrName, 0, ""},
		{[]string{"class A{^f f;}"}, api.ErrName, 0, ""},
		{[]string{"class A{void m(int a,^B b){}}"}, api.ErrName, 0, ""},
		{[]string{"class A{^B m(){return x;}}"}, api.ErrName, 0, ""},
		{[]string{"class A{void m(){^B b=x;}}"}, api.ErrName, 0, ""},
		// Names.
		{[]string{"class A{int m(){return ^x;}}"}, api.ErrName, 0, ""},
		{[]string{"class A{int m(){int a=^a;}}"}, api.ErrName, 0, ""},
		{[]string{"class A{int m(){{int a=1;}return ^a;}}"}, api.ErrName, 0, ""},
		{[]string{"class A{int m(){return 1;}}class B{int m(int a){return ^n();}int b(){return a;}}"}, api.ErrName, 0, ""},
		{[]string{"class A{int m(int a){return 1;}int n(){return ^a;}}"}, api.ErrName, 0, ""},
		{[]string{"class A{int m(){return new ^B();}}"}, api.ErrName, 0, ""},
		{[]string{"class A{int m(){return this.^x;}}"}, api.ErrName, 0, ""},
		{[]string{"class A{int m(){return 1.^x;}}"}, api.ErrType, 0, ""},
		{[]string{"class A{int m(){return ^x.y;}}"}, api.ErrName, 0, ""},
		{[]string{"class A{int m(){return m().^y;}}"}, api.ErrType, 0, ""},
		// Static.
		{[]string{"class A{int f;static int m(){return ^f;}}"}, api.ErrStatic, 0, ""},
		{[]string{"class A{int n(){return 1;}static int m(){return ^n();}}"}, api.ErrStatic, 0, ""},
		{[]string{"class A{static A m(){return ^this;}}"}, api.ErrStatic, 0, ""},
		{[]string{"class A{int f;static int m(){return ^this.f;}}"}, api.ErrStatic, 0, ""},
		{[]string{"class A{int f;int m(){return A.^f;}}"}, api.ErrStatic, 0, ""},
		{[]string{"class A{int f;int m(){return A.^m();}}"}, api.ErrStatic, 0, ""},
		// Order: the first Kid of a dot, the name, the other Kids; files and classes in their order.
		{[]string{"class A{int m(){return ^x.y(z);}}"}, api.ErrName, 0, ""},
		{[]string{"class A{int m(){return this.^y(z);}}"}, api.ErrName, 0, ""},
		{[]string{"class A{int m(){return ^y(z);}}"}, api.ErrName, 0, ""},
		{[]string{"class A{int m(int a){return m(^z);}}"}, api.ErrName, 0, ""},
		{[]string{"class A{int m(int a){return this.m(^z);}}"}, api.ErrName, 0, ""},
		{[]string{"class A{int m(){return ^x+y;}}"}, api.ErrName, 0, ""},
		{[]string{"class A{int m(){^x=y;}}"}, api.ErrName, 0, ""},
		{[]string{"class A{}", "class B{^X f;}", "class C{Y f;}"}, api.ErrName, 1, ""},
		{[]string{"class A{void m(){return ^x;}Y f;}"}, api.ErrName, 0, ""},
	} {
		at := strings.Index(c.texts[c.file], "^")
		if c.mark != "" {
			at = strings.Index(c.texts[c.file], c.mark)
		}
		var texts []string
		for _, s := range c.texts {
			texts = append(texts, strings.Replace(s, "^", "", 1))
		}
		if l, m := bind.Uses(files(t, texts...)); len(l) != 0 || m != (api.Mistake{Code: c.code, File: c.file, At: at}) {
			t.Errorf("%q: %s, %v, want %d at %d", texts, uses(l), m, c.code, at)
		}
	}
}

// P17.4
func TestOfAndAt(t *testing.T) {
	l := []api.Use{{File: 0, At: 1, Id: "a"}, {File: 1, At: 1, Id: "b"}, {File: 0, At: 2, Id: "a"}, {File: 0, At: 1, Id: "c"}, {File: 0, At: 2, Id: ""}}
	for id, want := range map[string]string{"a": "0:1 a, 0:2 a", "b": "1:1 b", "": "0:2 ", "x": "", "A": ""} {
		if got := bind.Of(l, id); uses(got) != want {
			t.Errorf("Of(%q) = %s", id, uses(got))
		}
	}
	for _, c := range []struct {
		file, at int
		want     string
		is       bool
	}{{0, 1, "a", true}, {1, 1, "b", true}, {0, 2, "a", true}, {1, 2, "", false}, {2, 1, "", false}, {-1, 1, "", false}, {0, math.MinInt, "", false}} {
		if got, is := bind.At(l, c.file, c.at); got != c.want || is != c.is {
			t.Errorf("At(%d, %d) = %q, %t", c.file, c.at, got, is)
		}
	}
	if got, is := bind.At([]api.Use{{}}, 0, 0); got != "" || !is {
		t.Errorf("At = %q, %t", got, is)
	}
	got := bind.Of(l, "a")
	got[0].Id = "changed"
	if l[0].Id != "a" || len(bind.Of(nil, "a")) != 0 {
		t.Error("the result of Of shares memory with its argument")
	}
}

// P17.5: every name has one use, whose entity has that name; separators move
// uses, but change nothing else.
func TestConsequence(t *testing.T) {
	spaced := strings.NewReplacer("{", " {/**/\n", ".", " . ", "(", "( ", ";", ";//\n").Replace(program)
	table, _ := decls.Table(files(t, program))
	a, m := bind.Uses(files(t, program))
	b, m2 := bind.Uses(files(t, spaced))
	if m.Code != api.OK || m2.Code != api.OK || len(a) != len(b) {
		t.Fatal(m, m2)
	}
	names := 0
	for _, text := range strings.FieldsFunc(program, func(r rune) bool { return strings.ContainsRune(" {}();.\n", r) }) {
		if !slices.Contains(strings.Fields("class extends int static return boolean void new true 1"), text) {
			names++
		}
	}
	if len(a) != names {
		t.Errorf("%d uses of %d names", len(a), names)
	}
	for i, u := range a {
		e, is := decls.Find(table, u.Id)
		if !is || !strings.HasPrefix(program[u.At:], e.Name) || b[i].Id != u.Id || !strings.HasPrefix(spaced[b[i].At:], e.Name) || i > 0 && a[i-1].At >= u.At {
			t.Errorf("use %d: %v, %v", i, u, b[i])
		}
	}
}

// Results are in new memory.
func TestNewMemory(t *testing.T) {
	s := scopes(t)["B"]
	e, _ := s.Entity(expression(t, "b"))
	e.Params[0] = "changed"
	e, _ = s.Entity(expression(t, "m(1)"))
	e.Params[0] = "changed"
	if again := scopes(t)["B"]; !reflect.DeepEqual(s, again) {
		t.Error("a result shares memory with the scope")
	}
}

// Rules 1 and 8: calls return for trees of any depth.
func TestDeep(t *testing.T) {
	x := api.Node{Kind: api.Name, Text: "a"}
	for range 1000000 {
		x = api.Node{Kind: api.Not, Kids: []api.Node{x}}
	}
	for _, kid := range []api.Node{x, {Kind: api.Method, Text: "m", Kids: []api.Node{x}}} {
		bind.Uses([][]api.Node{{{Kind: api.Class, Text: "A", Kids: []api.Node{kid}}}})
	}
}
