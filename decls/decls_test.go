package decls_test

import (
	"math"
	"reflect"
	"slices"
	"strconv"
	"strings"
	"testing"

	"concordat/api"
	"concordat/decls"
	"concordat/parse"
)

// files parses texts.
func files(t *testing.T, texts ...string) [][]api.Node {
	t.Helper()
	var out [][]api.Node
	for _, text := range texts {
		l, m := parse.File(text)
		if m.Code != api.OK {
			t.Fatal(text, m)
		}
		out = append(out, l)
	}
	return out
}

// show prints an entity with all of its fields.
func show(e api.Entity) string {
	s := strconv.Itoa(e.Kind) + " " + e.Id + " name=" + e.Name + " owner=" + e.Owner + " type=" + e.Type + " " + strconv.Itoa(e.File) + ":" + strconv.Itoa(e.At)
	if e.Static {
		s += " static"
	}
	return s + " (" + strings.Join(e.Params, ",") + ")"
}

// shows prints entities.
func shows(l []api.Entity) []string {
	var out []string
	for _, e := range l {
		out = append(out, show(e))
	}
	return out
}

// ids returns the ids of entities, separated by spaces.
func ids(l []api.Entity) string {
	var out []string
	for _, e := range l {
		out = append(out, e.Id)
	}
	return strings.Join(out, " ")
}

// P15.1
func TestTable(t *testing.T) {
	l, m := decls.Table(files(t, "class A{int f;int m(int a){int b=a;return b;}}", "class B extends A{static A g;static void m(A a,boolean b){}}class C{}"))
	want := []string{
		"1 A name=A owner= type= 0:6 ()",
		"2 A.f name=f owner=A type=int 0:12 ()",
		"3 A.m() name=m owner=A type=int 0:18 (int)",
		"4 A.m()#0 name=a owner=A.m() type=int 0:24 ()",
		"4 A.m()#1 name=b owner=A.m() type=int 0:31 ()",
		"1 B name=B owner= type=A 1:6 ()",
		"2 B.g name=g owner=B type=A 1:27 static ()",
		"3 B.m() name=m owner=B type=void 1:41 static (A,boolean)",
		"4 B.m()#0 name=a owner=B.m() type=A 1:45 ()",
		"4 B.m()#1 name=b owner=B.m() type=boolean 1:55 ()",
		"1 C name=C owner= type= 1:66 ()",
	}
	if m != (api.Mistake{}) || !slices.Equal(shows(l), want) {
		t.Errorf("Table = %q, %v", shows(l), m)
	}
	for _, f := range [][][]api.Node{nil, {}, {nil, {}}} {
		if l, m := decls.Table(f); len(l) != 0 || m != (api.Mistake{}) {
			t.Errorf("Table(%v) = %v, %v", f, l, m)
		}
	}
}

// P15.1: what may have the same name, and the numbers of locals.
func TestAllowed(t *testing.T) {
	for text, want := range map[string]string{
		"class A{A A;A A(A A){return A;}}":                                   "A A.A A.A() A.A()#0",
		"class A{int f;}class B{int f;}":                                     "A A.f B B.f",
		"class A{int m(){}}class B extends A{int m(){}}":                     "A A.m() B B.m()",
		"class A{void m(int a){} void n(int a){int b=a;}}":                   "A A.m() A.m()#0 A.n() A.n()#0 A.n()#1",
		"class A{void m(){{int a=1;}{int a=2;}int a=3;}}":                    "A A.m() A.m()#0 A.m()#1 A.m()#2",
		"class A{void m(){if(a){int a=1;}else{int a=1;}while(a){int a=1;}}}": "A A.m() A.m()#0 A.m()#1 A.m()#2",
		"class A{int f;void m(int f){}}":                                     "A A.f A.m() A.m()#0",
		"class A{int m;void m(){}}":                                          "A A.m A.m()",
	} {
		if l, m := decls.Table(files(t, text)); ids(l) != want || m != (api.Mistake{}) {
			t.Errorf("%q: %q, %v", text, ids(l), m)
		}
	}
}

// P15.1: the first of several duplicates counts, in the order of the entities.
func TestTwice(t *testing.T) {
	for _, c := range []struct {
		texts    []string
		file, at int
	}{
		{[]string{"class A{}class A{}"}, 0, 15},
		{[]string{"class A{}", "class B{}", "class A{}"}, 2, 6},
		{[]string{"class A{int f;boolean f;}"}, 0, 22},
		{[]string{"class A{int m(){}}", "class B{void m(){}void m(int a){}}"}, 1, 23},
		{[]string{"class A{int m(int a,int a){}}"}, 0, 24},
		{[]string{"class A{int m(int a){int a=1;}}"}, 0, 25},
		{[]string{"class A{int m(int a){{while(b){int a=1;}}}}"}, 0, 35},
		{[]string{"class A{int m(){int a=1;if(b){int a=1;}}}"}, 0, 34},
		{[]string{"class A{int m(){int a=1;int a=1;}}"}, 0, 28},
		{[]string{"class A{int m(){{int a=1;}int a=1;int a=2;}}"}, 0, 38},
		{[]string{"class A{int f;int f;}class A{}"}, 0, 18},
		{[]string{"class A{}class A{int f;int f;}"}, 0, 15},
		{[]string{"class A{void m(){int a=1;int a=1;}int f;int f;}"}, 0, 29},
		{[]string{"class A{int f;void m(){int a=1;int a=1;}int f;}"}, 0, 35},
		{[]string{"class A{void m(int a){}void m(int b,int b){}}"}, 0, 28},
	} {
		if l, m := decls.Table(files(t, c.texts...)); len(l) != 0 || m != (api.Mistake{Code: api.ErrTwice, File: c.file, At: c.at}) {
			t.Errorf("%q: %q, %v, want %d:%d", c.texts, ids(l), m, c.file, c.at)
		}
	}
}

// P15.1: other nodes are ignored; names are visible where the document says.
func TestOtherNodes(t *testing.T) {
	local := func(name string, kids ...api.Node) api.Node {
		return api.Node{Kind: api.Local, Text: name, Type: "int", Kids: kids}
	}
	method := func(name string, kids ...api.Node) api.Node {
		return api.Node{Kind: api.Method, Text: name, Kids: kids}
	}
	block := func(kids ...api.Node) api.Node { return api.Node{Kind: api.Block, Kids: kids} }
	class := func(kids ...api.Node) api.Node { return api.Node{Kind: api.Class, Text: "A", Kids: kids} }
	for i, c := range []struct {
		l     []api.Node
		ids   string
		twice bool
	}{
		{[]api.Node{{Kind: api.Field, Text: "f"}, {Kind: api.Block}, {Kind: 0}}, "", false},
		{[]api.Node{class(local("x"), api.Node{Kind: api.Class, Text: "B"}, api.Node{Kind: api.Param, Text: "p"}, api.Node{Kind: 77})}, "A", false},
		{[]api.Node{class(api.Node{Kind: api.Field, Text: "f", Kids: []api.Node{local("x")}})}, "A A.f", false},
		{[]api.Node{class(method("m"))}, "A A.m()", false},
		// A local is visible only after everything inside it.
		{[]api.Node{class(method("m", block(local("x", block(local("x"))))))}, "A A.m() A.m()#0 A.m()#1", false},
		{[]api.Node{class(method("m", block(local("x"), local("y", block(local("x"))))))}, "", true},
		// It is visible up to the end of the node of which it is a Kid, whatever that is.
		{[]api.Node{class(method("m", block(api.Node{Kind: api.If, Kids: []api.Node{local("x")}}, local("x"))))}, "A A.m() A.m()#0 A.m()#1", false},
		{[]api.Node{class(method("m", block(api.Node{Kind: api.If, Kids: []api.Node{local("x"), block(local("x"))}})))}, "", true},
		{[]api.Node{class(method("m", block(local("p")), api.Node{Kind: api.Param, Text: "p"}, block(local("q"))))}, "A A.m() A.m()#0 A.m()#1 A.m()#2", false},
		{[]api.Node{class(method("m", api.Node{Kind: api.Param, Text: "p", Kids: []api.Node{local("p")}}, block()))}, "A A.m() A.m()#0 A.m()#1", false},
	} {
		l, m := decls.Table([][]api.Node{c.l})
		if ids(l) != c.ids || (m.Code == api.ErrTwice) != c.twice {
			t.Errorf("case %d: %q, %v", i, ids(l), m)
		}
	}
	static := api.Node{Kind: api.Class, Text: "A", Type: "B", N: 1, At: -1, Kids: []api.Node{{Kind: api.Field, Text: "f", N: 2, At: -1}, {Kind: api.Field, Text: "g", N: 1, At: -7}}}
	l, _ := decls.Table([][]api.Node{nil, {static}})
	if want := []string{"1 A name=A owner= type=B 1:-1 ()", "2 A.f name=f owner=A type= 1:-1 ()", "2 A.g name=g owner=A type= 1:-7 static ()"}; !slices.Equal(shows(l), want) {
		t.Errorf("%q", shows(l))
	}
}

// P15.2
func TestFindAndOf(t *testing.T) {
	l := []api.Entity{
		{Id: "a", Name: "1", Owner: "x", Params: []string{"p"}}, {Id: "b", Owner: ""}, {Id: "a", Name: "2", Owner: "x"}, {Id: "", Name: "3", Owner: "y"},
	}
	for id, want := range map[string]int{"a": 0, "b": 1, "": 3} {
		if e, is := decls.Find(l, id); !is || !reflect.DeepEqual(e, l[want]) {
			t.Errorf("Find(%q) = %v, %t", id, e, is)
		}
	}
	for _, id := range []string{"x", "A", "a "} {
		if e, is := decls.Find(l, id); is || !reflect.DeepEqual(e, api.Entity{}) {
			t.Errorf("Find(%q) = %v, %t", id, e, is)
		}
	}
	for owner, want := range map[string]string{"x": "a a", "y": "", "": "", "z": ""} {
		got := decls.Of(l, owner)
		if ids(got) != want || (owner == "y") != (len(got) == 1) {
			t.Errorf("Of(%q) = %v", owner, got)
		}
	}
	if _, is := decls.Find(nil, ""); is || len(decls.Of(nil, "x")) != 0 {
		t.Error("nothing contains something")
	}
	e, _ := decls.Find(l, "a")
	e.Params[0] = "changed"
	of := decls.Of(l, "x")
	of[0].Params[0] = "changed"
	_ = append(of[0].Params, "changed")
	if l[0].Params[0] != "p" {
		t.Error("a result shares memory with an argument")
	}
}

// P15.2
func TestIds(t *testing.T) {
	for got, want := range map[string]string{
		decls.Class("A"):                      "A",
		decls.Class(""):                       "",
		decls.Field("A", "f"):                 "A.f",
		decls.Field("", ""):                   ".",
		decls.Method("A", "m"):                "A.m()",
		decls.Local("A.m()", 0):               "A.m()#0",
		decls.Local("A.m()", 12):              "A.m()#12",
		decls.Local("x", -1):                  "x#0",
		decls.Local("y", math.MinInt):         "y#0",
		decls.Local("", math.MaxInt):          "#9223372036854775807",
		decls.Local(decls.Method("", "a"), 3): ".a()#3",
	} {
		if got != want {
			t.Errorf("%q, want %q", got, want)
		}
	}
}

// P15.3
func TestConsequence(t *testing.T) {
	text := "class A{A A;A B(A A,int b){if(b==1){int c=b;}else{int c=b;int d=c;}return A;}}class B extends A{int c;void d(){}}"
	l, m := decls.Table(files(t, text))
	if m.Code != api.OK {
		t.Fatal(m)
	}
	seen := map[string]bool{}
	for _, e := range l {
		if seen[e.Id] || !strings.HasPrefix(text[e.At:], e.Name) {
			t.Errorf("%v", show(e))
		}
		seen[e.Id] = true
	}
}

// Rule 1: calls return for trees of any depth.
func TestDeep(t *testing.T) {
	x := api.Node{Kind: api.Local, Text: "a"}
	for range 1000000 {
		x = api.Node{Kind: api.Block, Kids: []api.Node{x}}
	}
	l, _ := decls.Table([][]api.Node{{{Kind: api.Class, Text: "A", Kids: []api.Node{{Kind: api.Method, Text: "m", Kids: []api.Node{x}}}}}})
	if len(l) != 3 {
		t.Errorf("%d entities", len(l))
	}
}

// Results are in new memory.
func TestNewMemory(t *testing.T) {
	f := files(t, "class A{int m(int a,A b){return 1;}int n(int a){return 1;}}")
	a, _ := decls.Table(f)
	b, _ := decls.Table(f)
	a[1].Params[0], a[0].Name = "changed", "changed"
	_ = append(a[1].Params, "changed")
	if b[1].Params[0] != "int" || b[0].Name != "A" || a[4].Params[0] != "int" {
		t.Error("two results share memory")
	}
}
