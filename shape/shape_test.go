package shape_test

import (
	"math"
	"slices"
	"strings"
	"testing"

	"concordat/api"
	"concordat/lcs"
	"concordat/node"
	"concordat/parse"
	"concordat/shape"
)

// member parses a field or a method.
func member(t *testing.T, text string) api.Node {
	t.Helper()
	n, m := parse.Member(text)
	if m.Code != api.OK {
		t.Fatal(text, m)
	}
	return n
}

// class parses a class.
func class(t *testing.T, text string) api.Node {
	t.Helper()
	l, m := parse.File(text)
	if m.Code != api.OK || len(l) != 1 {
		t.Fatal(text, m)
	}
	return l[0]
}

// P14.1
func TestErase(t *testing.T) {
	x := api.Node{Kind: api.Method, Text: "f", Type: "A", N: 3, From: 1, To: 2, At: 3, TypeAt: 4, Kids: []api.Node{
		{Kind: api.Param, Text: "A", Type: "f"},
		{Kind: api.Binary, Text: "f", Type: "f", Kids: []api.Node{{Kind: api.Name, Text: "f"}, {Kind: api.Call, Text: "g"}}},
		{Kind: api.Int, Text: "", Type: "", N: 1},
		{Kind: 99, Text: "A", Type: "int"},
	}}
	want := api.Node{Kind: api.Method, Text: "_", Type: "_", N: 3, From: 1, To: 2, At: 3, TypeAt: 4, Kids: []api.Node{
		{Kind: api.Param, Text: "_", Type: "_"},
		{Kind: api.Binary, Text: "f", Type: "_", Kids: []api.Node{{Kind: api.Name, Text: "_"}, {Kind: api.Call, Text: "g"}}},
		{Kind: api.Int, N: 1},
		{Kind: 99, Text: "_", Type: "int"},
	}}
	before, _ := node.Get(x, nil)
	got := shape.Erase(x, []string{"f", "A", "", "f"})
	if !node.Same(got, want) || got.From != 1 || got.To != 2 || got.At != 3 || got.TypeAt != 4 {
		t.Errorf("Erase = %v", got)
	}
	got.Kids[1].Kids[0].Text = "changed"
	if !node.Same(x, before) {
		t.Errorf("the argument is now %v", x)
	}
	for _, names := range [][]string{nil, {}, {""}, {"x"}, {"F", "ff", "_"}} {
		if got := shape.Erase(x, names); !node.Same(got, x) {
			t.Errorf("Erase of %q = %v", names, got)
		}
	}
}

// P14.1
func TestOf(t *testing.T) {
	for _, c := range []struct {
		n     api.Node
		names []string
		want  string
	}{
		{member(t, "int f(){return f();}"), []string{"f"}, "  int _() {\n    return _();\n  }\n"},
		{member(t, "int f(){return f();}"), nil, "  int f() {\n    return f();\n  }\n"},
		{member(t, "static A f;"), []string{"f"}, "  static A _;\n"},
		{member(t, "static A f;"), []string{"A", "int"}, "  static _ f;\n"},
		{member(t, "int f;"), []string{"int"}, "  _ f;\n"},
		{class(t, "class A extends B{A a;}"), []string{"A"}, "class _ extends B {\n  _ a;\n}\n"},
		{class(t, "class A extends B{A a;}"), []string{"B", "a"}, "class A extends _ {\n  A _;\n}\n"},
	} {
		if got := shape.Of(c.n, c.names); got != c.want {
			t.Errorf("Of = %q, want %q", got, c.want)
		}
	}
	for _, kind := range []int{0, api.Param, api.Block, api.Local, api.Do, api.Name, api.Binary, -1, 25} {
		if got := shape.Of(api.Node{Kind: kind, Text: "x"}, nil); got != "" {
			t.Errorf("Of of the kind %d = %q", kind, got)
		}
	}
}

// P14.2
func TestTokens(t *testing.T) {
	for _, c := range []struct {
		n     api.Node
		names []string
		want  string
	}{
		{member(t, "int f ( int a ) { return a/*x*/+1; }"), []string{"a"}, "int f ( int _ ) { return _ + 1 ; }"},
		{class(t, "class A{}"), nil, "class A { }"},
		{api.Node{Kind: api.Block}, nil, ""},
		{api.Node{Kind: api.Field, Text: "&", Type: "int"}, nil, ""},
		{api.Node{Kind: api.Field, Text: "&", Type: "int"}, []string{"&"}, "int _ ;"},
		{api.Node{Kind: api.Field, Text: "f", Type: "/*"}, nil, ""},
		{api.Node{Kind: api.Field, Text: "f // x", Type: "int"}, nil, "int f"},
		{api.Node{Kind: api.Field, Text: strings.Repeat("a", 21), Type: "int"}, nil, ""},
	} {
		if got := shape.Tokens(c.n, c.names); !slices.Equal(got, strings.Fields(c.want)) {
			t.Errorf("Tokens = %q, want %q", got, c.want)
		}
	}
}

// P14.2
func TestPercent(t *testing.T) {
	f := member(t, "int f(){return f();}")
	for _, c := range []struct {
		a, b  api.Node
		names []string
		want  int
	}{
		{f, f, nil, 100},
		{f, member(t, "int g(){return g();}"), nil, 200 * 9 / 22},
		{f, member(t, "int g(){return g();}"), []string{"f", "g"}, 100},
		{f, member(t, "int g(){return f();}"), []string{"f", "g"}, 100},
		{f, member(t, "int g;"), []string{"f", "g"}, 200 * 3 / 14},
		{member(t, "int f;"), member(t, "boolean f;"), nil, 66},
		{member(t, "int f;"), member(t, "static int f;"), nil, 200 * 3 / 7},
		{api.Node{}, api.Node{Kind: api.Block}, nil, 100},
		{f, api.Node{}, nil, 0},
		{class(t, "class A{int f;}"), class(t, "class B{int f;}"), []string{"A", "B"}, 100},
		{class(t, "class A{int f;}"), class(t, "class B{int f;}"), nil, 200 * 6 / 14},
	} {
		if got := shape.Percent(c.a, c.b, c.names); got != c.want {
			t.Errorf("Percent of %q and %q = %d, want %d", shape.Of(c.a, nil), shape.Of(c.b, nil), got, c.want)
		}
		l := lcs.Numbers(shape.Tokens(c.a, c.names), shape.Tokens(c.b, c.names))
		if got := shape.Percent(c.a, c.b, c.names); got != lcs.Percent(l[0], l[1]) {
			t.Errorf("Percent = %d", got)
		}
	}
}

// P14.3
func TestBest(t *testing.T) {
	f := member(t, "int f;")
	l := []api.Node{class(t, "class f{}"), member(t, "int f(){return 1;}"), member(t, "boolean x;"), member(t, "int g;"), member(t, "int h;"), member(t, "int f;")}
	for _, c := range []struct {
		n     api.Node
		l     []api.Node
		names []string
		least int
		want  int
	}{
		{f, l, nil, 0, 5},
		{f, l, nil, 100, 5},
		{f, l, nil, 101, -1},
		{f, l[:5], nil, 66, 3},
		{f, l[:5], nil, 67, -1},
		{f, l, []string{"f", "g", "h"}, 100, 3},
		{f, l, []string{"f", "h"}, 100, 4},
		{f, l[:3], nil, 33, 2},
		{f, l[:3], nil, 34, -1},
		{f, l[:2], nil, 0, -1},
		{f, l[:2], nil, math.MinInt, -1},
		{f, nil, nil, -1, -1},
		{member(t, "int f(){return 2;}"), l, nil, 0, 1},
		{class(t, "class A extends B{int f;}"), l, nil, math.MinInt, 0},
		{class(t, "class A extends B{int f;}"), l, nil, math.MaxInt, -1},
		{api.Node{Kind: api.Block}, []api.Node{{}, {Kind: api.Block}, {Kind: api.Block, N: 1}}, nil, 100, 1},
		{api.Node{Kind: api.Field, Text: "&", Type: "x"}, []api.Node{member(t, "int f;"), member(t, "int g;")}, nil, 0, 0},
		{api.Node{Kind: api.Field, Text: "&", Type: "x"}, []api.Node{member(t, "int f;"), member(t, "int g;")}, nil, 1, -1},
	} {
		if got := shape.Best(c.n, c.l, c.names, c.least); got != c.want {
			t.Errorf("Best of %q, %q, %d = %d, want %d", shape.Of(c.n, nil), c.names, c.least, got, c.want)
		}
	}
}

// P14.4
func TestConsequence(t *testing.T) {
	for _, c := range []struct{ a, b string }{
		{"int f(int a){int b=a;return f(b)+this.f(a);}", "int x(int y){int z=y;return x(z)+this.x(y);}"},
		{"A m(A a){return new A();}", "B m(B b){return new B();}"},
	} {
		a, b := member(t, c.a), member(t, c.b)
		names := []string{"f", "x", "a", "y", "b", "z", "A", "B"}
		if shape.Of(a, names) != shape.Of(b, names) || shape.Percent(a, b, names) != 100 || shape.Percent(a, a, nil) != 100 {
			t.Errorf("%q and %q have different shapes", c.a, c.b)
		}
	}
}

// Rule 1: calls return for trees of any depth.
func TestDeep(t *testing.T) {
	x := api.Node{Kind: api.Name, Text: "a"}
	for range 300000 {
		x = api.Node{Kind: api.Not, Kids: []api.Node{x}}
	}
	x = api.Node{Kind: api.Method, Text: "m", Type: "int", Kids: []api.Node{{Kind: api.Return, Kids: []api.Node{x}}}}
	if l := shape.Tokens(x, []string{"a"}); len(l) != 300000+9 {
		t.Errorf("%d tokens", len(l))
	}
}
