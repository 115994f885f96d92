package parse_test

import (
	"reflect"
	"slices"
	"strconv"
	"strings"
	"testing"

	"concordat/api"
	"concordat/node"
	"concordat/parse"
)

var kinds = []string{"?", "Class", "Field", "Method", "Param", "Block", "Local", "Set", "Do", "If", "While", "Return", "Print", "Int", "Bool", "Null", "This", "Name", "Dot", "Call", "DotCall", "New", "Not", "Neg", "Binary"}

// show prints a node without its positions: its kind, its type, its text, its
// number, and its Kids.
func show(n api.Node) string {
	s := kinds[n.Kind]
	if n.Type != "" {
		s += ":" + n.Type
	}
	if n.Text != "" {
		s += " " + n.Text
	}
	if n.N != 0 {
		s += " " + strconv.FormatInt(n.N, 10)
	}
	if len(n.Kids) > 0 {
		s += "(" + shows(n.Kids) + ")"
	}
	return s
}

// shows prints nodes, separated by commas.
func shows(l []api.Node) string {
	var out []string
	for _, n := range l {
		out = append(out, show(n))
	}
	return strings.Join(out, ", ")
}

// P12.2
func TestExpression(t *testing.T) {
	for text, want := range map[string]string{
		"1":                   "Int 1",
		"0":                   "Int",
		"2147483647":          "Int 2147483647",
		"true":                "Bool 1",
		"false":               "Bool",
		"null":                "Null",
		"this":                "This",
		"a":                   "Name a",
		"(a)":                 "Name a",
		"((a))":               "Name a",
		"new A()":             "New A",
		"f()":                 "Call f",
		"f(1,a)":              "Call f(Int 1, Name a)",
		"a.b":                 "Dot b(Name a)",
		"a.b.c":               "Dot c(Dot b(Name a))",
		"a.b()":               "DotCall b(Name a)",
		"a.b(1)(":             "",
		"a.b(1).c(2,3).d":     "Dot d(DotCall c(DotCall b(Name a, Int 1), Int 2, Int 3))",
		"f().g":               "Dot g(Call f)",
		"1.a":                 "Dot a(Int 1)",
		"this.a":              "Dot a(This)",
		"null.a()":            "DotCall a(Null)",
		"new A().b":           "Dot b(New A)",
		"(a+b).c":             "Dot c(Binary +(Name a, Name b))",
		"!a":                  "Not(Name a)",
		"-1":                  "Neg(Int 1)",
		"--1":                 "Neg(Neg(Int 1))",
		"!-a.b":               "Not(Neg(Dot b(Name a)))",
		"-(1)":                "Neg(Int 1)",
		"-a+b":                "Binary +(Neg(Name a), Name b)",
		"-(a+b)":              "Neg(Binary +(Name a, Name b))",
		"!a==b":               "Binary ==(Not(Name a), Name b)",
		"a-b-c":               "Binary -(Binary -(Name a, Name b), Name c)",
		"a-(b-c)":             "Binary -(Name a, Binary -(Name b, Name c))",
		"a/b*c%d":             "Binary %(Binary *(Binary /(Name a, Name b), Name c), Name d)",
		"a+b*c":               "Binary +(Name a, Binary *(Name b, Name c))",
		"a*b+c":               "Binary +(Binary *(Name a, Name b), Name c)",
		"a.b(1)+c*-2":         "Binary +(DotCall b(Name a, Int 1), Binary *(Name c, Neg(Int 2)))",
		"a||b&&c==d<e+f*g":    "Binary ||(Name a, Binary &&(Name b, Binary ==(Name c, Binary <(Name d, Binary +(Name e, Binary *(Name f, Name g))))))",
		"a*b+c<d==e&&f||g":    "Binary ||(Binary &&(Binary ==(Binary <(Binary +(Binary *(Name a, Name b), Name c), Name d), Name e), Name f), Name g)",
		"a||b||c":             "Binary ||(Binary ||(Name a, Name b), Name c)",
		"a&&b||c&&d":          "Binary ||(Binary &&(Name a, Name b), Binary &&(Name c, Name d))",
		"a!=b==c":             "Binary ==(Binary !=(Name a, Name b), Name c)",
		"a<=b>c<d>=e":         "Binary >=(Binary <(Binary >(Binary <=(Name a, Name b), Name c), Name d), Name e)",
		"a-b+c":               "Binary +(Binary -(Name a, Name b), Name c)",
		"a == b < c":          "Binary ==(Name a, Binary <(Name b, Name c))",
		"a && b == c":         "Binary &&(Name a, Binary ==(Name b, Name c))",
		" /*x*/ a //y\n + 1 ": "Binary +(Name a, Int 1)",
	} {
		n, m := parse.Expression(text)
		if want == "" {
			if m.Code != api.ErrSyntax {
				t.Errorf("Expression(%q) = %s", text, show(n))
			}
			continue
		}
		if show(n) != want || m != (api.Mistake{}) {
			t.Errorf("Expression(%q) = %s, %v, want %s", text, show(n), m, want)
		}
	}
}

// P12.2
func TestStatement(t *testing.T) {
	for text, want := range map[string]string{
		"{}":                                 "Block",
		"{{}a();}":                           "Block(Block, Do(Call a))",
		"a();":                               "Do(Call a)",
		"1+2;":                               "Do(Binary +(Int 1, Int 2))",
		"a=1;":                               "Set(Name a, Int 1)",
		"1=2;":                               "Set(Int 1, Int 2)",
		"a.b=c==d;":                          "Set(Dot b(Name a), Binary ==(Name c, Name d))",
		"int a=1;":                           "Local:int a(Int 1)",
		"boolean a=1;":                       "Local:boolean a(Int 1)",
		"A a=null;":                          "Local:A a(Null)",
		"if(a)b();":                          "If(Name a, Do(Call b))",
		"if(a)b();else c();":                 "If(Name a, Do(Call b), Do(Call c))",
		"if(a)if(b)c();else d();":            "If(Name a, If(Name b, Do(Call c), Do(Call d)))",
		"if(a){if(b)c();}else d();":          "If(Name a, Block(If(Name b, Do(Call c))), Do(Call d))",
		"if(a)b();else if(c)d();else e();":   "If(Name a, Do(Call b), If(Name c, Do(Call d), Do(Call e)))",
		"if(a)while(b)if(c)d();else e();":    "If(Name a, While(Name b, If(Name c, Do(Call d), Do(Call e))))",
		"while(a){}":                         "While(Name a, Block)",
		"while(a)return;":                    "While(Name a, Return)",
		"return;":                            "Return",
		"return a;":                          "Return(Name a)",
		"print(1);":                          "Print(Int 1)",
		"(a).b();":                           "Do(DotCall b(Name a))",
		"{int a=1;A b=a;a=b;if(a)b=a;}":      "Block(Local:int a(Int 1), Local:A b(Name a), Set(Name a, Name b), If(Name a, Set(Name b, Name a)))",
		"{A.b();A.b=c;a<b;}":                 "Block(Do(DotCall b(Name A)), Set(Dot b(Name A), Name c), Do(Binary <(Name a, Name b)))",
		"if(a)return 1;else while(true){a;}": "If(Name a, Return(Int 1), While(Bool 1, Block(Do(Name a))))",
	} {
		if n, m := parse.Statement(text); show(n) != want || m != (api.Mistake{}) {
			t.Errorf("Statement(%q) = %s, %v, want %s", text, show(n), m, want)
		}
	}
}

// P12.1, P12.2
func TestMemberAndFile(t *testing.T) {
	for text, want := range map[string]string{
		"int f;":                         "Field:int f",
		"boolean f;":                     "Field:boolean f",
		"static A f;":                    "Field:A f 1",
		"void m(){}":                     "Method:void m(Block)",
		"static int m(){return 1;}":      "Method:int m 1(Block(Return(Int 1)))",
		"A m(int a,B b,boolean c){}":     "Method:A m(Param:int a, Param:B b, Param:boolean c, Block)",
		" /**/ static void m ( ) { } //": "Method:void m 1(Block)",
	} {
		if n, m := parse.Member(text); show(n) != want || m != (api.Mistake{}) {
			t.Errorf("Member(%q) = %s, %v, want %s", text, show(n), m, want)
		}
	}
	for text, want := range map[string]string{
		"":                               "",
		" // nothing":                    "",
		"class A{}":                      "Class A",
		"class A extends B{}":            "Class:B A",
		"class A{int f;void m(){}}":      "Class A(Field:int f, Method:void m(Block))",
		"class A{}class B{} class A{}":   "Class A, Class B, Class A",
		"class A{A A;A A(A A){A A=A;}}":  "Class A(Field:A A, Method:A A(Param:A A, Block(Local:A A(Name A))))",
		"class A extends A{static A a;}": "Class:A A(Field:A a 1)",
	} {
		if l, m := parse.File(text); shows(l) != want || m != (api.Mistake{}) {
			t.Errorf("File(%q) = %s, %v, want %s", text, shows(l), m, want)
		}
	}
}

// P12.1: the offset of the first token that can't follow those before it.
func TestSyntaxErrors(t *testing.T) {
	for _, c := range []struct {
		text string
		at   int
	}{
		{"class A { int f }", 16}, {"x", 0}, {"class", 5}, {"class A", 7}, {"class A{", 8}, {"class A{}x", 9}, {"class int{}", 6}, {"class A extends{}", 15}, {"class A extends B", 17},
		{"class A extends B,C{}", 17}, {"class A{;}", 8}, {"class A{int}", 11}, {"class A{int f}", 13}, {"class A{int f=1;}", 13}, {"class A{void f;}", 14}, {"class A{static void f;}", 21}, {"class A{static}", 14},
		{"class A{static static int f;}", 15}, {"class A{int static f;}", 12}, {"class A{null f;}", 8}, {"class A{int m(}", 14}, {"class A{int m(){}", 17}, {"class A{int m();}", 15}, {"class A{int m(int){}}", 17},
		{"class A{int m(a){}}", 15}, {"class A{int m(void){}}", 14}, {"class A{int m(void a){}}", 14}, {"class A{int m(int a,){}}", 20}, {"class A{int m(int a b){}}", 20}, {"class A{int m(int a,void b){}}", 20}, {"class A{int m(,){}}", 14},
		{"class A{int m()return 1;}", 15}, {"class A{m(){}}", 9}, {"class A{this m(){}}", 8}, {"class A{}}", 9}, {"class A{class B{}}", 8}, {"class A{int f;} int g;", 16}, {"class A{int f, g;}", 13},
	} {
		if l, m := parse.File(c.text); len(l) != 0 || m != (api.Mistake{Code: api.ErrSyntax, At: c.at}) {
			t.Errorf("File(%q) = %s, %v, want offset %d", c.text, shows(l), m, c.at)
		}
	}
	for _, c := range []struct {
		text string
		at   int
	}{
		{"", 0}, {";", 0}, {"{", 1}, {"}", 0}, {"{}{}", 2}, {"a", 1}, {"a b;", 3}, {"int a;", 5}, {"int a=;", 6}, {"int a=1", 7}, {"int=1;", 3}, {"void a=1;", 0}, {"{void a=1;}", 1}, {"void", 0}, {"int a=1;b();", 8},
		{"A b c=1;", 4}, {"a=b=c;", 3}, {"a=;", 2}, {"a();;", 4}, {"return a", 8}, {"return a b;", 9}, {"return int;", 7}, {"print 1;", 6}, {"print();", 6}, {"print(1)", 8}, {"print(1,2);", 7},
		{"if a b();", 3}, {"if()b();", 3}, {"if(a)", 5}, {"if(a)else b();", 5}, {"if(a)b();else", 13}, {"else b();", 0}, {"if(a)b();else c();else d();", 18}, {"if(a)int b=1;", 5}, {"if(a)A b=1;", 7}, {"if(a)void b=1;", 5}, {"while(a)", 8}, {"while(a)int b=1;", 8},
		{"while()b();", 6}, {"{int}", 4}, {"{static int a=1;}", 1}, {"class A{}", 0}, {"{a}", 2},
	} {
		if n, m := parse.Statement(c.text); !reflect.DeepEqual(n, api.Node{}) || m != (api.Mistake{Code: api.ErrSyntax, At: c.at}) {
			t.Errorf("Statement(%q) = %s, %v, want offset %d", c.text, show(n), m, c.at)
		}
	}
	for _, c := range []struct {
		text string
		at   int
	}{
		{"", 0}, {"  ", 2}, {"+", 0}, {"+a", 0}, {"a+", 2}, {"a b", 2}, {"(a", 2}, {"a)", 1}, {"()", 1}, {"(a,b)", 2}, {"f(", 2}, {"f(,)", 2}, {"f(a,)", 4}, {"f(a b)", 4}, {"a.", 2}, {"a.1", 2}, {"a.class", 2}, {"a..b", 2}, {".a", 0},
		{"new", 3}, {"new A", 5}, {"new A(", 6}, {"new A(1)", 6}, {"new int()", 4}, {"new A.b", 5}, {"1(2)", 1}, {"this()", 4}, {"(f)(1)", 3}, {"a=b", 1}, {"a+*b", 2}, {"!", 1}, {"a!b", 1}, {"a!=", 3}, {"-", 1}, {"int", 0}, {"1;", 1}, {"a.b()()", 5}, {"f()()", 3}, {"{}", 0},
	} {
		if n, m := parse.Expression(c.text); !reflect.DeepEqual(n, api.Node{}) || m != (api.Mistake{Code: api.ErrSyntax, At: c.at}) {
			t.Errorf("Expression(%q) = %s, %v, want offset %d", c.text, show(n), m, c.at)
		}
	}
	for _, c := range []struct {
		text string
		at   int
	}{{"", 0}, {"int f;int g;", 6}, {"void f;", 6}, {"class A{}", 0}, {"int f(){};", 9}, {"{}", 0}, {"static", 6}} {
		if n, m := parse.Member(c.text); !reflect.DeepEqual(n, api.Node{}) || m != (api.Mistake{Code: api.ErrSyntax, At: c.at}) {
			t.Errorf("Member(%q) = %s, %v, want offset %d", c.text, show(n), m, c.at)
		}
	}
}

// P12.1, P12.2: the errors of lex.Lex come before all others.
func TestLexErrors(t *testing.T) {
	for _, c := range []struct {
		text string
		m    api.Mistake
	}{
		{"} } &", api.Mistake{Code: api.ErrByte, At: 4}},
		{"} 01", api.Mistake{Code: api.ErrNumber, At: 2}},
		{"} /*", api.Mistake{Code: api.ErrNote, At: 2}},
		{"} " + strings.Repeat("a", 21), api.Mistake{Code: api.ErrLimit, At: 2}},
		{strings.Repeat(" ", api.MaxText+1), api.Mistake{Code: api.ErrLimit}},
		{strings.Repeat("(", 100) + "#", api.Mistake{Code: api.ErrByte, At: 100}},
	} {
		l, m := parse.File(c.text)
		n1, m1 := parse.Member(c.text)
		n2, m2 := parse.Statement(c.text)
		n3, m3 := parse.Expression(c.text)
		if len(l) != 0 || m != c.m || m1 != c.m || m2 != c.m || m3 != c.m || !node.Same(n1, api.Node{}) || !node.Same(n2, api.Node{}) || !node.Same(n3, api.Node{}) {
			t.Errorf("%.20q: %v %v %v %v, want %v", c.text, m, m1, m2, m3, c.m)
		}
	}
}

// nested returns open many times, then middle, then shut as many times.
func nested(open string, many int, middle, shut string) string {
	return strings.Repeat(open, many) + middle + strings.Repeat(shut, many)
}

// P12.1, P12.2: what is nested as deeply as possible, and one level more.
func TestDepth(t *testing.T) {
	expression := func(s string) api.Mistake { _, m := parse.Expression(s); return m }
	statement := func(s string) api.Mistake { _, m := parse.Statement(s); return m }
	member := func(s string) api.Mistake { _, m := parse.Member("int m()" + s); return m }
	file := func(s string) api.Mistake { _, m := parse.File("class A{int m()" + s + "}"); return m }
	for i, c := range []struct {
		parse func(string) api.Mistake
		text  string
		at    int // of ErrLimit; below 0: no mistake
	}{
		{expression, nested("(", 59, "1", ")"), -1},
		{expression, nested("(", 60, "1", ")"), 60},
		{expression, nested("(", 60, "", ""), 60},
		{expression, nested("(", 61, "1", ")"), 60},
		{expression, nested("!", 59, "a", ""), -1},
		{expression, nested("!", 60, "a", ""), 60},
		{expression, nested("-", 60, ";", ""), 60},
		{expression, nested("f(", 59, "1", ")"), -1},
		{expression, nested("f(", 60, "1", ")"), 120},
		{expression, nested("f(", 60, "", ")"), -1},
		{expression, nested("a.f(1,", 60, "1", ")"), 59*6 + 4},
		{expression, nested("(", 59, "a.b(1)", ")"), 63},
		{expression, nested("(", 59, "a.b().c()+f()*new A()", ")"), -1},
		{expression, nested("(", 59, "1+!a", ")"), 62},
		{expression, nested("(1+", 59, "1", ")"), -1},
		{expression, nested("!(", 29, "!a", ")"), -1},
		{expression, nested("!(", 29, "!!a", ")"), 60},
		{expression, nested("(", 59, "1+1+1*1*1||1", ")"), -1},
		{statement, nested("{", 60, "", "}"), -1},
		{statement, nested("{", 61, "", "}"), 60},
		{statement, nested("{", 60, ";", "}"), 60},
		{statement, nested("{", 60, "", ""), 60},
		{statement, nested("{", 60, ")", ""), 60},
		{statement, nested("{", 60, "void a=1;", ""), 60},
		{statement, nested("{", 59, "return;", "}"), -1},
		{statement, nested("{", 59, "return 1;", "}"), 66},
		{statement, nested("{", 59, "return }", "}"), 66},
		{statement, nested("{", 58, "return 1;", "}"), -1},
		{statement, nested("{", 58, "int a=b;", "}"), -1},
		{statement, nested("{", 59, "int a=b;", "}"), 65},
		{statement, nested("{", 60, "int a=b;", "}"), 60},
		{statement, nested("{", 60, "A a=b;", "}"), 60},
		{statement, nested("{", 58, "a=b;", "}"), -1},
		{statement, nested("{", 59, "a=b;", "}"), 59},
		{statement, nested("{", 58, "print(a);", "}"), -1},
		{statement, nested("{", 59, "print(a);", "}"), 65},
		{statement, nested("{", 58, "print((a));", "}"), 65},
		{statement, nested("{", 58, "if(a){}else{}", "}"), -1},
		{statement, nested("{", 59, "if(a){}", "}"), 62},
		{statement, nested("while(a)", 58, "b();", ""), -1},
		{statement, nested("while(a)", 59, "{}", ""), -1},
		{statement, nested("while(a)", 59, "b();", ""), 59 * 8},
		{statement, nested("while(a)", 60, "", ""), 59*8 + 6},
		{statement, nested("if(a){}else ", 59, "{}", ""), -1},
		{statement, nested("if(a){}else ", 60, "{}", ""), 59*12 + 3},
		{member, nested("{", 60, "", "}"), -1},
		{member, nested("{", 61, "", "}"), 67},
		{file, nested("{", 60, "", "}"), -1},
		{file, nested("{", 61, "", "}"), 75},
	} {
		want := api.Mistake{}
		if c.at >= 0 {
			want = api.Mistake{Code: api.ErrLimit, At: c.at}
		}
		if m := c.parse(c.text); m != want {
			t.Errorf("case %d, %q: %v, want %v", i, c.text, m, want)
		}
	}
}

// P12.1, P12.2: trees that are too tall though nothing is nested.
func TestTall(t *testing.T) {
	sum := func(many int) string { return strings.TrimSuffix(strings.Repeat("a+", many), "+") }
	if n, m := parse.Expression(" (" + sum(200) + ")"); m.Code != api.OK || node.Depth(n) != 200 {
		t.Errorf("%v", m)
	}
	for _, s := range []string{"(" + sum(201) + ")", "a" + strings.Repeat(".b", 200), "a" + strings.Repeat(".b()", 300), sum(100000)} {
		if n, m := parse.Expression(" " + s); m != (api.Mistake{Code: api.ErrLimit, At: 1}) || !reflect.DeepEqual(n, api.Node{}) {
			t.Errorf("%v", m)
		}
	}
	if _, m := parse.Expression(" " + sum(201) + ")"); m != (api.Mistake{Code: api.ErrSyntax, At: 402}) {
		t.Errorf("%v", m)
	}
	if _, m := parse.Statement(" return " + sum(199) + ";"); m.Code != api.OK {
		t.Errorf("%v", m)
	}
	if n, m := parse.Statement(" (a).b=" + sum(200) + ";"); m != (api.Mistake{Code: api.ErrLimit, At: 1}) || !reflect.DeepEqual(n, api.Node{}) {
		t.Errorf("%v", m)
	}
	if _, m := parse.Member("static int m(){return " + sum(197) + ";}"); m.Code != api.OK {
		t.Errorf("%v", m)
	}
	if n, m := parse.Member("\nstatic int m(){return " + sum(198) + ";}"); m != (api.Mistake{Code: api.ErrLimit, At: 1}) || !reflect.DeepEqual(n, api.Node{}) {
		t.Errorf("%v", m)
	}
	class := func(many int) string { return "class A{int m(){return " + sum(many) + ";}}" }
	if l, m := parse.File(class(1) + class(196)); m.Code != api.OK || len(l) != 2 || node.Depth(l[1]) != 200 {
		t.Errorf("%v", m)
	}
	if l, m := parse.File(class(1) + class(197) + class(198)); m != (api.Mistake{Code: api.ErrLimit, At: len(class(1))}) || len(l) != 0 {
		t.Errorf("%v", m)
	}
	if _, m := parse.File(class(197) + "x"); m != (api.Mistake{Code: api.ErrSyntax, At: len(class(197))}) {
		t.Errorf("%v", m)
	}
}

// place is what a position says: the text of a node, and where its names are.
func place(text string, n api.Node) []string {
	s := []string{kinds[n.Kind] + " " + text[n.From:n.To] + " " + strconv.Itoa(n.At) + " " + strconv.Itoa(n.TypeAt)}
	for _, kid := range n.Kids {
		s = append(s, place(text, kid)...)
	}
	return s
}

// The positions of the chapter's words, for every kind of node.
func TestPositions(t *testing.T) {
	text := " class A extends B { static int f ; void m ( int a , B b ) { int c = ( a ) ; (a) . b = ( 1 ) ; } } class C{}"
	l, m := parse.File(text)
	if m.Code != api.OK {
		t.Fatal(m)
	}
	want := []string{
		"Class class A extends B { static int f ; void m ( int a , B b ) { int c = ( a ) ; (a) . b = ( 1 ) ; } } 7 17",
		"Field static int f ; 32 28",
		"Method void m ( int a , B b ) { int c = ( a ) ; (a) . b = ( 1 ) ; } 41 36",
		"Param int a 49 45",
		"Param B b 55 53",
		"Block { int c = ( a ) ; (a) . b = ( 1 ) ; } -1 -1",
		"Local int c = ( a ) ; 65 61",
		"Name a 71 -1",
		"Set (a) . b = ( 1 ) ; -1 -1",
		"Dot (a) . b 83 -1",
		"Name a 78 -1",
		"Int 1 -1 -1",
	}
	if got := place(text, l[0]); !slices.Equal(got, want) {
		t.Errorf("%q", got)
	}
	if got := place(text, l[1]); !slices.Equal(got, []string{"Class class C{} " + strconv.Itoa(strings.Index(text, "C{}")) + " -1"}) {
		t.Errorf("%q", got)
	}
	for text, want := range map[string][]string{
		"((a)+b)*-(c)":       {"Binary ((a)+b)*-(c) -1 -1", "Binary (a)+b -1 -1", "Name a 2 -1", "Name b 5 -1", "Neg -(c) -1 -1", "Name c 10 -1"},
		"((a))":              {"Name a 2 -1"},
		"((a)).f ( (b) )":    {"DotCall ((a)).f ( (b) ) 6 -1", "Name a 2 -1", "Name b 11 -1"},
		"f ( (a) , new B())": {"Call f ( (a) , new B()) 0 -1", "Name a 5 -1", "New new B() 14 -1"},
		"!(!(true))":         {"Not !(!(true)) -1 -1", "Not !(true) -1 -1", "Bool true -1 -1"},
		"(this).a.b == null": {"Binary (this).a.b == null -1 -1", "Dot (this).a.b 9 -1", "Dot (this).a 7 -1", "This this -1 -1", "Null null -1 -1"},
	} {
		if n, m := parse.Expression(text); m.Code != api.OK || !slices.Equal(place(text, n), want) {
			t.Errorf("%q: %q, %v", text, place(text, n), m)
		}
	}
	for text, want := range map[string][]string{
		"if (a) return ; else { }":   {"If if (a) return ; else { } -1 -1", "Name a 4 -1", "Return return ; -1 -1", "Block { } -1 -1"},
		"while ( (a) ) print ( b );": {"While while ( (a) ) print ( b ); -1 -1", "Name a 9 -1", "Print print ( b ); -1 -1", "Name b 22 -1"},
		"(a) . b ( ) ;":              {"Do (a) . b ( ) ; -1 -1", "DotCall (a) . b ( ) 6 -1", "Name a 1 -1"},
		"{ return (a); }":            {"Block { return (a); } -1 -1", "Return return (a); -1 -1", "Name a 10 -1"},
	} {
		if n, m := parse.Statement(text); m.Code != api.OK || !slices.Equal(place(text, n), want) {
			t.Errorf("%q: %q, %v", text, place(text, n), m)
		}
	}
}

// Results are in new memory, in which no two lists of Kids meet.
func TestNewMemory(t *testing.T) {
	text := "f(a,b,c).g(d,e)"
	n, _ := parse.Expression(text)
	_ = append(n.Kids, api.Node{Kind: 99})
	_ = append(n.Kids[0].Kids, api.Node{Kind: 99})
	if again, _ := parse.Expression(text); show(n) != show(again) {
		t.Errorf("%s", show(n))
	}
}
