package types_test

import (
	"slices"
	"strings"
	"testing"

	"concordat/api"
	"concordat/parse"
	"concordat/types"
)

// check checks the files of which each text is one. A ^ in a text is left out;
// its place is returned.
func check(t *testing.T, texts ...string) (m api.Mistake, file, at int) {
	t.Helper()
	var files [][]api.Node
	at = -1
	for i, text := range texts {
		if k := strings.Index(text, "^"); k >= 0 {
			file, at = i, k
			text = text[:k] + text[k+1:]
		}
		l, bad := parse.File(text)
		if bad.Code != api.OK {
			t.Fatal(text, bad)
		}
		files = append(files, l)
	}
	return types.Check(files), file, at
}

func class(id, above string) api.Entity {
	return api.Entity{Kind: api.IsClass, Id: id, Name: id, Type: above}
}

// table has C below B below A, and D alone; what is called x is no class.
func table() []api.Entity {
	return []api.Entity{class("C", "B"), class("A", ""), class("B", "A"), class("D", ""), {Kind: api.IsField, Id: "x", Type: "A"}, {Kind: api.IsLocal, Id: "y"}}
}

// P18.1
func TestMay(t *testing.T) {
	all := []string{"", "void", "null", "int", "boolean", "A", "B", "C", "D", "E", "x", "y", "Int"}
	yes := strings.Fields("int>int boolean>boolean null>A null>B null>C null>D A>A B>B C>C D>D B>A C>B C>A")
	for _, from := range all {
		for _, to := range all {
			if got := types.May(table(), from, to); got != slices.Contains(yes, from+">"+to) {
				t.Errorf("May(%q, %q) = %t", from, to, got)
			}
		}
	}
	if types.May(nil, "A", "A") || types.May(nil, "null", "A") || !types.May(nil, "int", "int") {
		t.Error("May without classes")
	}
}

// P18.2
func TestOperator(t *testing.T) {
	all := []string{"", "void", "null", "int", "boolean", "A", "B", "D", "E"}
	for _, op := range strings.Fields("+ - * / % < <= > >= && || == != = ! & +- ") {
		for _, a := range all {
			for _, b := range all {
				want := ""
				switch op {
				case "+", "-", "*", "/", "%":
					if a == "int" && b == "int" {
						want = "int"
					}
				case "<", "<=", ">", ">=":
					if a == "int" && b == "int" {
						want = "boolean"
					}
				case "&&", "||":
					if a == "boolean" && b == "boolean" {
						want = "boolean"
					}
				case "==", "!=":
					if slices.Contains(strings.Fields("null=null int=int boolean=boolean A=A B=B D=D A=B B=A null=A A=null null=B B=null null=D D=null"), a+"="+b) {
						want = "boolean"
					}
				}
				if got := types.Operator(table(), op, a, b); got != want {
					t.Errorf("Operator(%q, %q, %q) = %q, want %q", op, a, b, got, want)
				}
			}
		}
	}
	if got := types.Operator(table(), "", "int", "int"); got != "" {
		t.Errorf("Operator = %q", got)
	}
}

// members are what the methods below may use.
const members = `class B extends A{int y;}class A{int f;static boolean g;A a;B b;static A s;
void v(){}int i(){return 1;}boolean z(int p,boolean q){return q;}A n(A p){return p;}static B k(B p){return p;}
`

// P18.3: what is right.
func TestRight(t *testing.T) {
	for _, body := range []string{
		"void m(){}", "void m(){return;}", "int m(){return f;}", "A m(){return b;}", "A m(){return null;}", "boolean m(){return g;}", "B m(){return new B();}", "A m(){return this;}",
		"void m(){int x=1;boolean y=true;A z=null;A w=b;B u=k(null);}", "void m(){{int x=1;}{boolean x=true;g=x;}}", "void m(int x,A y){x=1;y=b;}",
		"void m(){f=1;this.f=f;A.g=g;B.g=true;a.a.b.a=null;s.f=2;k(b).y=3;a=b;A.s=b;}",
		"void m(){v();this.v();a.z(1,g);A.k(b);B.k(null);n(b);n(null).v();a.k(b);}",
		"void m(){if(g){}if(f==1)v();else v();while(!g)v();while(f<1){f=f+1;}}",
		"void m(){print(f);print(g);print(1+2*3%4/5-6);print(-f);print(!g);print(a==null);}",
		"void m(){g=a==b;g=b==a;g=a!=null;g=null==null;g=1==2;g=true!=g;g=f<=1&&f>=2||g;g=b.a==new A();}",
		"boolean m(A A){return A.z(1,A.g);}", "int m(){int A=1;return A;}", "void m(){int f=2;f=3;boolean g=f<4;}",
		"static int m(){return s.f;}", "static void m(){A x=s;x.f=1;k(null);A.k(null);}",
	} {
		if m, _, _ := check(t, members+body+"}"); m != (api.Mistake{}) {
			t.Errorf("%q: %v", body, m)
		}
	}
	if m, _, _ := check(t); m != (api.Mistake{}) {
		t.Errorf("%v", m)
	}
}

// P18.3: what is wrong, and where.
func TestWrong(t *testing.T) {
	for code, bodies := range map[api.Errno][]string{
		api.ErrName: {
			"void m(){int x=^A;}", "void m(){f=^A;}", "int m(){return ^A;}", "void m(){print(^A);}", "void m(){n(^A);}", "void m(){a.n(^A);}", "void m(){A.k(^A);}", "void m(){if(^A)v();}", "void m(){print(-^A);}", "void m(){g=!(^A);}", "void m(){g=^A==null;}", "void m(){print(1+^A);}", "void m(){a.f=^A;}", "void m(){while(^A)v();}", "boolean m(){return (^B)==A;}",
		},
		api.ErrType: {
			"int m(){return ^true;}", "int m(){return ^null;}", "int m(){return (^g);}", "int m(){^return;}", "A m(){^return;}", "void m(){return ^1;}", "void m(){return ^v();}", "B m(){return ^a;}", "boolean m(){return ^null;}", "A m(){return ^1;}",
			"void m(){int x=^true;}", "void m(){A x=^1;}", "void m(){B x=^a;}", "void m(){int x=^v();}", "void m(){boolean x=^null;}", "void m(){int x=(((^g)));}",
			"void m(){f=^g;}", "void m(){b=^a;}", "void m(){this.f=^null;}", "void m(){A.g=^1;}", "void m(){a=^v();}", "void m(int x){x=^g;}",
			"void m(){if(^f)v();}", "void m(){if(^null)v();}", "void m(){if(^v())v();}", "void m(){if((^a))v();else v();}", "void m(){while(^1)v();}", "void m(){while(g){while(^f)v();}}", "void m(){if(g)f=^g;else v();}", "void m(){if(g)v();else f=^g;}",
			"void m(){print(^a);}", "void m(){print(^null);}", "void m(){print(^v());}", "void m(){print(^new A());}",
			"void m(){g=!^f;}", "void m(){g=!(^a);}", "void m(){f=-^g;}", "void m(){f=-(^a);}", "void m(){f=1+ -^v();}",
			"void m(){f=^f+g;}", "void m(){f=^g*f;}", "void m(){g=^g<f;}", "void m(){g=^f&&g;}", "void m(){g=^g||f;}", "void m(){g=^f==g;}", "void m(){g=^a==f;}", "void m(){g=^1!=null;}", "void m(){g=^v()==v();}", "void m(){g=^(g)+f==1;}", "void m(){f=1+(^g-f);}", "void m(){f=^(f+f)*g;}", "void m(){g=^f<f<f;}",
			"void m(){z(^g,g);}", "void m(){z(1,^f);}", "void m(){n(^1);}", "void m(){k(^a);}", "void m(){a.n(^v());}", "void m(){A.k((^a));}", "void m(){z(i(),^i());}",
		},
		api.ErrArgs: {
			"void m(){^v(1);}", "void m(){^z(1);}", "void m(){^z(1,g,g);}", "void m(){this.^v(1);}", "void m(){A.^k();}", "void m(){a.a.^n();}", "void m(){f=1+^i(2);}", "void m(){^z();}",
		},
		api.ErrLeft: {
			"void m(){^1=f;}", "void m(){^A=a;}", "void m(){^this=a;}", "void m(){^i()=1;}", "void m(){^this.i()=1;}", "void m(){^f+f=1;}", "void m(){(^A)=a;}", "void m(){^-f=1;}", "void m(){(^i())=1;}", "void m(){^null=null;}", "void m(){^new A()=a;}",
			"void m(){^f;}", "void m(){^1;}", "void m(){^A;}", "void m(){^a.f;}", "void m(){^new A();}", "void m(){^i()+1;}", "void m(){(^f);}", "void m(){^this;}", "void m(){^!g;}",
		},
	} {
		for _, body := range bodies {
			m, file, at := check(t, members+body+"}")
			if m != (api.Mistake{Code: code, File: file, At: at}) {
				t.Errorf("%q: %v, want %d at %d", body, m, code, at)
			}
		}
	}
}

// P18.3: which of several mistakes is the first one.
func TestOrder(t *testing.T) {
	for _, c := range []struct {
		code  api.Errno
		texts []string
	}{
		// Those of bind.Uses come first, wherever they are.
		{api.ErrName, []string{"class A{int m(){return true;}}class B{int m(){return ^x;}}"}},
		{api.ErrTwice, []string{"class A{int m(){return true;}}", "class ^A{}"}},
		{api.ErrSuper, []string{"class A{int m(){return true;}}", "class ^B extends C{}"}},
		{api.ErrStatic, []string{"class A{int m(){return true;}static A n(){return ^this;}}"}},
		{api.ErrType, []string{"class A{int m(){return ^true;}}"}},
		// File by file, class by class, method by method.
		{api.ErrType, []string{"class A{}", "class B{void m(){int a=1;}int n(){^return;}}class C{void m(){1;}}", "class D{void m(){1;}}"}},
		{api.ErrLeft, []string{"class A{void m(){{int a=1;^a;}}void n(){print(null);}}"}},
		{api.ErrType, []string{"class A{void m(){int a=1;a=^true;a;}}"}},
		// Kids before the expression itself, from left to right.
		{api.ErrType, []string{"class A{void m(){print(-^true+ -false);}}"}},
		{api.ErrType, []string{"class A{void m(){print(true+ -^false);}}"}},
		{api.ErrType, []string{"class A{int f(int a){return 1;}void m(){f(1,-^true);}}"}},
		{api.ErrType, []string{"class A{int f(int a){return 1;}void m(){this.f(true,-^true);}}"}},
		{api.ErrArgs, []string{"class A{int f(int a){return 1;}void m(){this.^f(true,true);}}"}},
		{api.ErrType, []string{"class A{A f(int a){return this;}void m(){this.f(^true).f(false);}}"}},
		{api.ErrType, []string{"class A{A a;A f(int a){return this;}void m(){this.f(^true).a.f();}}"}},
		// A Set: its left side must be one, then it is checked, then the right side.
		{api.ErrLeft, []string{"class A{void m(){^1=-true;}}"}},
		{api.ErrType, []string{"class A{A f(int a){return this;}A a;void m(){f(^true).a=-true;}}"}},
		{api.ErrType, []string{"class A{int f;void m(){f=-^true;}}"}},
		{api.ErrLeft, []string{"class A{void m(){^A=-true;}}"}},
		{api.ErrLeft, []string{"class A{void m(){^-true;}}"}},
		// A condition before the statements.
		{api.ErrType, []string{"class A{void m(){if(^1)2;else 3;}}"}},
		{api.ErrLeft, []string{"class A{void m(){if(true)^2;else 3;}}"}},
		{api.ErrLeft, []string{"class A{void m(){if(true){}else ^3;while(1){}}}"}},
		{api.ErrType, []string{"class A{void m(){while(!^1)2;}}"}},
		{api.ErrType, []string{"class A{int m(){return -^true;}}"}},
		{api.ErrType, []string{"class A{void m(){boolean a=!^1;}}"}},
		{api.ErrType, []string{"class A{void m(){return -^true;}}"}},
		{api.ErrType, []string{"class A{void m(){print(!^1);}}"}},
		// A local is visible only behind itself, and up to the end of its block.
		{api.ErrType, []string{"class A{boolean a;void m(){{int a=1;}a=^1;}}"}},
		{api.ErrType, []string{"class A{boolean a;void m(){int b=^a;int a=b;}}"}},
		{api.ErrType, []string{"class A{boolean a;void m(){while(true){int a=1;a=2;}a=^2;}}"}},
		{api.ErrType, []string{"class A{boolean a;void m(int a){a=1;}void n(){a=^1;}}"}},
	} {
		m, file, at := check(t, c.texts...)
		if m != (api.Mistake{Code: c.code, File: file, At: at}) {
			t.Errorf("%q: %v, want %d at %d:%d", c.texts, m, c.code, file, at)
		}
	}
}

// P18.4
func TestConsequences(t *testing.T) {
	names := []string{"A", "B", "C", "D"}
	for _, x := range names {
		for _, y := range names {
			for _, z := range names {
				if types.May(table(), x, y) && types.May(table(), y, z) && !types.May(table(), x, z) {
					t.Errorf("%s, %s, %s", x, y, z)
				}
			}
		}
	}
	for text, code := range map[string]api.Errno{
		"class A{B b;int m(){return b.n();}} class B extends C{int n(){return f;}} class C{int f;A a;}":                      api.OK,
		"class A{B b;int m(){return b.n();}} class B extends C{boolean n(){return f;}} class C{boolean f;}":                  api.ErrType,
		"class A{void m(){new B().n(1);}} class B extends C{} class C{void n(){}}":                                           api.ErrArgs,
		"class A{void m(){C.f=null;}} class B extends C{void n(){C c=new C();}} class C{static C f;B b(){b();return null;}}": api.OK,
	} {
		classes := strings.Split(text, " class ")
		for i := range classes {
			classes[i] = "class " + strings.TrimPrefix(classes[i], "class ")
		}
		for _, p := range [][3]int{{0, 1, 2}, {0, 2, 1}, {1, 0, 2}, {1, 2, 0}, {2, 0, 1}, {2, 1, 0}} {
			a, b, c := classes[p[0]], classes[p[1]], classes[p[2]]
			for _, texts := range [][]string{{a, b, c}, {a + b + c}, {a + b, c}, {"", a, b + c}} {
				if m, _, _ := check(t, texts...); m.Code != code {
					t.Errorf("%q: %v, want %d", texts, m, code)
				}
			}
		}
	}
}

// Rule 8: calls return for nodes that parse never returns.
func TestOtherNodes(t *testing.T) {
	for kind := range 27 {
		for many := range 4 {
			n := api.Node{Kind: kind, Text: "m", Type: "int", At: -1, TypeAt: -1}
			for range many {
				n.Kids = append(n.Kids, api.Node{Kind: api.Bool, At: -1, TypeAt: -1})
			}
			method := api.Node{Kind: api.Method, Text: "m", Type: "int", Kids: []api.Node{n, {Kind: api.Param, Kids: []api.Node{n}}, {Kind: api.Do, Kids: []api.Node{n}}}}
			types.Check([][]api.Node{{n, {Kind: api.Class, Text: "A", Kids: []api.Node{method, n}}}})
		}
	}
	x := api.Node{Kind: api.Bool}
	for range 1000000 {
		x = api.Node{Kind: api.Not, Kids: []api.Node{x}}
	}
	types.Check([][]api.Node{{{Kind: api.Class, Text: "A", Kids: []api.Node{{Kind: api.Method, Text: "m", Kids: []api.Node{{Kind: api.Do, Kids: []api.Node{x}}}}}}}})
}
