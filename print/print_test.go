package print_test

import (
	"math"
	"math/rand"
	"strings"
	"testing"

	"concordat/api"
	"concordat/node"
	"concordat/parse"
	"concordat/print"
)

// n returns a node of a kind with a text and Kids.
func n(kind int, text string, kids ...api.Node) api.Node {
	return api.Node{Kind: kind, Text: text, Kids: kids}
}

func name(s string) api.Node              { return n(api.Name, s) }
func number(i int64) api.Node             { return api.Node{Kind: api.Int, N: i} }
func neg(x api.Node) api.Node             { return n(api.Neg, "", x) }
func not(x api.Node) api.Node             { return n(api.Not, "", x) }
func op(s string, a, b api.Node) api.Node { return n(api.Binary, s, a, b) }

var operators = []string{"||", "&&", "==", "!=", "<", "<=", ">", ">=", "+", "-", "*", "/", "%"}

// P13.1
func TestBinds(t *testing.T) {
	for s, want := range map[string]int{"||": 1, "&&": 2, "==": 3, "!=": 3, "<": 4, "<=": 4, ">": 4, ">=": 4, "+": 5, "-": 5, "*": 6, "/": 6, "%": 6, "": 0, "!": 0, "=": 0, "&": 0, "|": 0, ".": 0, "+ ": 0, "a": 0} {
		if got := print.Binds(s); got != want {
			t.Errorf("Binds(%q) = %d, want %d", s, got, want)
		}
	}
}

// P13.1
func TestExpression(t *testing.T) {
	a, b, c := name("a"), name("b"), name("c")
	for want, x := range map[string]api.Node{
		"0":                    number(0),
		"-7":                   number(-7),
		"9223372036854775807":  number(math.MaxInt64),
		"-9223372036854775808": number(math.MinInt64),
		"true":                 {Kind: api.Bool, N: 1},
		"null":                 n(api.Null, "x"),
		"this":                 n(api.This, "x"),
		"a":                    a,
		"new A()":              n(api.New, "A", b),
		"a.f":                  n(api.Dot, "f", a, b),
		".f":                   n(api.Dot, "f"),
		"(a + b).f":            n(api.Dot, "f", op("+", a, b)),
		"(-a).f":               n(api.Dot, "f", neg(a)),
		"-1.f":                 n(api.Dot, "f", number(-1)),
		"f()":                  n(api.Call, "f"),
		"f(a, b + c, -1)":      n(api.Call, "f", a, op("+", b, c), number(-1)),
		"a.f()":                n(api.DotCall, "f", a),
		"a.f(b)":               n(api.DotCall, "f", a, b),
		"(!a).f(b || c, b, c)": n(api.DotCall, "f", not(a), op("||", b, c), b, c),
		".f()":                 n(api.DotCall, "f"),
		"!a":                   not(a),
		"!!a":                  not(not(a)),
		"!-a":                  not(neg(a)),
		"!-1":                  not(number(-1)),
		"!(a && b)":            not(op("&&", a, b)),
		"!":                    n(api.Not, ""),
		"-a":                   neg(a),
		"-1":                   neg(number(1)),
		"-0":                   neg(number(0)),
		"-(-1)":                neg(number(-1)),
		"-(-a)":                neg(neg(a)),
		"-(-(-a))":             neg(neg(neg(a))),
		"-!a":                  neg(not(a)),
		"-(a * b)":             neg(op("*", a, b)),
		"-":                    n(api.Neg, ""),
		"a - b - c":            op("-", op("-", a, b), c),
		"a - (b - c)":          op("-", a, op("-", b, c)),
		"a * (b + c)":          op("*", a, op("+", b, c)),
		"(a + b) * c":          op("*", op("+", a, b), c),
		"a + b * c":            op("+", a, op("*", b, c)),
		"a * b + c":            op("+", op("*", a, b), c),
		"-a * -b":              op("*", neg(a), neg(b)),
		"a - -1":               op("-", a, number(-1)),
		"-1 - a":               op("-", number(-1), a),
		"a ? (b ? c)":          op("?", a, op("?", b, c)),
		"a ? b ? c":            op("?", op("?", a, b), c),
		"a ? b || c":           op("?", a, op("||", b, c)),
		"a || (b ? c)":         op("||", a, op("?", b, c)),
		"(a ? b) || c":         op("||", op("?", a, b), c),
		" + ":                  n(api.Binary, "+"),
		"a + ":                 n(api.Binary, "+", a),
		"a + b":                n(api.Binary, "+", a, b, c),
		"a . b":                op(".", a, b),
		"a + .f":               op("+", a, n(api.Dot, "f")),
		"a.f(, b)":             n(api.DotCall, "f", a, n(api.Block, "x"), b),
		" * a":                 op("*", n(api.Block, ""), a),
	} {
		if got := print.Expression(x); got != want {
			t.Errorf("Expression = %q, want %q", got, want)
		}
	}
	for _, x := range []api.Node{{Kind: api.Bool}, {Kind: api.Bool, N: 2}, {Kind: api.Bool, N: -1}} {
		if got := print.Expression(x); got != "false" {
			t.Errorf("Expression = %q", got)
		}
	}
	for _, kind := range []int{0, api.Class, api.Field, api.Method, api.Param, api.Block, api.Local, api.Set, api.Do, api.If, api.While, api.Return, api.Print, -1, 25} {
		if got := print.Expression(n(kind, "x", a)); got != "" {
			t.Errorf("Expression of the kind %d = %q", kind, got)
		}
	}
}

// P13.1: each operator in and beside each other one.
func TestPrecedence(t *testing.T) {
	a, b, c := name("a"), name("b"), name("c")
	for _, x := range operators {
		for _, y := range operators {
			left, right := "a "+y+" b "+x+" c", "a "+x+" b "+y+" c"
			if print.Binds(y) < print.Binds(x) {
				left = "(a " + y + " b) " + x + " c"
			}
			if print.Binds(y) <= print.Binds(x) {
				right = "a " + x + " (b " + y + " c)"
			}
			if got := print.Expression(op(x, op(y, a, b), c)); got != left {
				t.Errorf("%q, want %q", got, left)
			}
			if got := print.Expression(op(x, a, op(y, b, c))); got != right {
				t.Errorf("%q, want %q", got, right)
			}
		}
	}
}

// P13.2
func TestStatement(t *testing.T) {
	a, b, c := name("a"), name("b"), name("c")
	do := n(api.Do, "", n(api.Call, "f"))
	for _, x := range []struct {
		n           api.Node
		ahead, want string
	}{
		{api.Node{Kind: api.Local, Text: "x", Type: "A", Kids: []api.Node{op("||", a, b)}}, "  ", "  A x = a || b;\n"},
		{api.Node{Kind: api.Local, Text: "x", Type: "int"}, "", "int x = ;\n"},
		{n(api.Set, "", n(api.Dot, "f", a), op("?", b, c)), "\t", "\ta.f = b ? c;\n"},
		{n(api.Set, ""), "", " = ;\n"},
		{do, "", "f();\n"},
		{n(api.Do, ""), " ", " ;\n"},
		{n(api.Return, ""), "", "return;\n"},
		{n(api.Return, "", a, b), "", "return a;\n"},
		{n(api.Return, "", n(api.Block, "")), "", "return ;\n"},
		{n(api.Print, "", op("+", a, b)), "--", "--print(a + b);\n"},
		{n(api.Print, ""), "", "print();\n"},
		{n(api.While, "", a, do), "", "while (a) {\n  f();\n}\n"},
		{n(api.While, "", op("||", a, b), n(api.Block, "", do, do)), " ", " while (a || b) {\n   f();\n   f();\n }\n"},
		{n(api.While, "", a), "", "while (a) {\n}\n"},
		{n(api.While, ""), "", "while () {\n}\n"},
		{n(api.If, "", a, do), "", "if (a) {\n  f();\n}\n"},
		{n(api.If, "", a, do, do), "", "if (a) {\n  f();\n} else {\n  f();\n}\n"},
		{n(api.If, "", a, n(api.Block, ""), n(api.If, "", b, do)), "", "if (a) {\n} else {\n  if (b) {\n    f();\n  }\n}\n"},
		{n(api.If, "", a), "", "if (a) {\n}\n"},
		{n(api.If, "", a, do, do, do), "", "if (a) {\n  f();\n} else {\n  f();\n}\n"},
		{n(api.Block, ""), "  ", "  {\n  }\n"},
		{n(api.Block, "", n(api.Block, "", do), n(api.Return, "")), "", "{\n  {\n    f();\n  }\n  return;\n}\n"},
		{n(api.Block, "", a, do, n(api.Field, "g")), "", "{\n  f();\n}\n"},
		{n(api.While, "", do, a), "", "while () {\n}\n"},
		{n(api.Block, "", do), "x", "x{\nx  f();\nx}\n"},
		{n(api.If, "", a, n(api.While, "", b, do)), "  ", "  if (a) {\n    while (b) {\n      f();\n    }\n  }\n"},
	} {
		if got := print.Statement(x.n, x.ahead); got != x.want {
			t.Errorf("Statement = %q, want %q", got, x.want)
		}
	}
	for _, kind := range []int{0, api.Class, api.Field, api.Method, api.Param, api.Int, api.Name, api.Call, api.Binary, -1, 25} {
		if got := print.Statement(n(kind, "x", a), "  "); got != "" {
			t.Errorf("Statement of the kind %d = %q", kind, got)
		}
	}
}

// P13.3
func TestMemberClassAndFile(t *testing.T) {
	field := api.Node{Kind: api.Field, Text: "f", Type: "int"}
	static := api.Node{Kind: api.Field, Text: "f", Type: "A", N: 1}
	param := api.Node{Kind: api.Param, Text: "p", Type: "B", Kids: []api.Node{name("x")}}
	method := func(n int64, kids ...api.Node) api.Node {
		return api.Node{Kind: api.Method, Text: "m", Type: "void", N: n, Kids: kids}
	}
	ret := n(api.Return, "")
	for _, x := range []struct {
		n    api.Node
		want string
	}{
		{field, "  int f;\n"},
		{static, "  static A f;\n"},
		{api.Node{Kind: api.Field, Text: "f", Type: "int", N: 2}, "  int f;\n"},
		{method(0, n(api.Block, "")), "  void m() {\n  }\n"},
		{method(1, param, n(api.Block, "", ret)), "  static void m(B p) {\n    return;\n  }\n"},
		{method(0, param, field, n(api.Block, "")), "  void m(B p, int f) {\n  }\n"},
		{method(0), "  void m() {\n  }\n"},
		{method(0, ret), "  void m() {\n    return;\n  }\n"},
		{method(0, param), "  void m() {\n  }\n"},
		{method(0, n(api.Block, ""), n(api.Block, "", ret)), "  void m( ) {\n    return;\n  }\n"},
	} {
		if got := print.Member(x.n); got != x.want {
			t.Errorf("Member = %q, want %q", got, x.want)
		}
	}
	for _, kind := range []int{0, api.Class, api.Param, api.Local, api.Block, api.Name, 25} {
		if got := print.Member(n(kind, "x")); got != "" {
			t.Errorf("Member of the kind %d = %q", kind, got)
		}
	}
	empty := n(api.Class, "A")
	full := api.Node{Kind: api.Class, Text: "B", Type: "A", Kids: []api.Node{field, name("x"), method(0)}}
	if got := print.Class(empty); got != "class A {\n}\n" {
		t.Errorf("Class = %q", got)
	}
	if got := print.Class(full); got != "class B extends A {\n  int f;\n  void m() {\n  }\n}\n" {
		t.Errorf("Class = %q", got)
	}
	for want, l := range map[string][]api.Node{
		"":               nil,
		"class A {\n}\n": {empty},
		"class A {\n}\n\nclass A {\n}\n\nclass B extends A {\n  int f;\n  void m() {\n  }\n}\n": {empty, empty, full},
	} {
		if got := print.File(l); got != want {
			t.Errorf("File = %q, want %q", got, want)
		}
	}
}

// expression returns a random tree of an expression.
func expression(r *rand.Rand, depth int) api.Node {
	if depth <= 0 {
		return []api.Node{name("a"), number(r.Int63n(100)), {Kind: api.Bool, N: r.Int63n(2)}, n(api.Null, ""), n(api.This, ""), n(api.New, "A")}[r.Intn(6)]
	}
	x := func() api.Node { return expression(r, r.Intn(depth)) }
	switch r.Intn(7) {
	case 0:
		return neg(x())
	case 1:
		return not(x())
	case 2:
		return n(api.Dot, "f", x())
	case 3:
		return n(api.Call, "m", x(), x())
	case 4:
		return n(api.DotCall, "m", x(), x())
	}
	return op(operators[r.Intn(len(operators))], x(), x())
}

// statement returns a random tree of a statement.
func statement(r *rand.Rand, depth int) api.Node {
	x := expression(r, r.Intn(4))
	if depth <= 0 {
		return []api.Node{n(api.Do, "", x), n(api.Set, "", x, x), n(api.Return, ""), n(api.Return, "", x), n(api.Print, "", x)}[r.Intn(5)]
	}
	y := func() api.Node { return statement(r, r.Intn(depth)) }
	switch r.Intn(4) {
	case 0:
		return n(api.While, "", x, y())
	case 1:
		return n(api.If, "", x, y())
	case 2:
		return n(api.If, "", x, y(), y())
	}
	return n(api.Block, "", y(), api.Node{Kind: api.Local, Text: "x", Type: "A", Kids: []api.Node{x}}, y())
}

// braced returns a tree in which all bodies are Blocks.
func braced(x api.Node) api.Node {
	var kids []api.Node
	for i, kid := range x.Kids {
		kid = braced(kid)
		if (x.Kind == api.If || x.Kind == api.While) && i > 0 && kid.Kind != api.Block {
			kid = n(api.Block, "", kid)
		}
		kids = append(kids, kid)
	}
	x.Kids = kids
	return x
}

// P13.4
func TestConsequence(t *testing.T) {
	r := rand.New(rand.NewSource(16))
	for range 3000 {
		x := expression(r, 6)
		s := print.Expression(x)
		if got, m := parse.Expression(s); m.Code != api.OK || !node.Same(got, x) {
			t.Fatalf("%q is parsed to something else: %v", s, m)
		}
		y := statement(r, 4)
		s = print.Statement(y, strings.Repeat(" ", r.Intn(3)))
		if got, m := parse.Statement(s); m.Code != api.OK || !node.Same(got, braced(y)) {
			t.Fatalf("%q is parsed to something else: %v", s, m)
		}
		class := api.Node{Kind: api.Class, Text: "A", Kids: []api.Node{
			{Kind: api.Field, Text: "f", Type: "int", N: r.Int63n(2)},
			{Kind: api.Method, Text: "m", Type: "void", N: r.Int63n(2), Kids: []api.Node{{Kind: api.Param, Text: "p", Type: "A"}, n(api.Block, "", y)}},
		}}
		s = print.File([]api.Node{class, class})
		if got, m := parse.File(s); m.Code != api.OK || len(got) != 2 || !node.Same(got[1], braced(class)) {
			t.Fatalf("%q is parsed to something else: %v", s, m)
		}
	}
	for text, want := range map[string]string{"(a-b)-(c-d)*-1": "a - b - (c - d) * -1", "((a))": "a", "-(-a)": "-(-a)", "--a": "-(-a)"} {
		x, _ := parse.Expression(text)
		if got := print.Expression(x); got != want {
			t.Errorf("%q is printed as %q, want %q", text, got, want)
		}
	}
}

// Rule 1: calls return for trees of any depth.
func TestDeep(t *testing.T) {
	x, y := name("a"), n(api.Return, "")
	for range 1000000 {
		x = not(x)
	}
	for range 2000 {
		y = n(api.Block, "", y)
	}
	if got := print.Expression(x); got != strings.Repeat("!", 1000000)+"a" {
		t.Errorf("%d bytes", len(got))
	}
	if got := print.Statement(y, ""); len(got) != 2*2000*1999+4*2000+2*2000+len("return;\n") {
		t.Errorf("%d bytes", len(got))
	}
}
