package inline_test

import (
	"reflect"
	"slices"
	"strings"
	"testing"

	"concordat/api"
	"concordat/inline"
	"concordat/node"
	"concordat/parse"
	"concordat/print"
	"concordat/run"
)

// files returns a tree with the files a, b, c and so on.
func files(texts ...string) []api.File {
	var l []api.File
	for i, text := range texts {
		l = append(l, api.File{Path: string(rune('a' + i)), Text: text})
	}
	return l
}

// expression parses an expression.
func expression(t *testing.T, text string) api.Node {
	t.Helper()
	n, m := parse.Expression(text)
	if m.Code != api.OK {
		t.Fatal(text, m)
	}
	return n
}

// P37.1
func TestPlain(t *testing.T) {
	s := []api.Entity{{Kind: api.IsLocal, Name: "a"}, {Name: "b", Id: "c"}}
	for text, want := range map[string]bool{
		"1": true, "true": true, "false": true, "null": true, "this": true, "a": true, "b": true, "(a)": true,
		"c": false, "A": false, "-1": false, "!a": false, "a+1": false, "a.b": false, "a()": false, "this.a": false, "new A()": false,
	} {
		if got := inline.Plain(s, expression(t, text)); got != want {
			t.Errorf("Plain(%q) = %t", text, got)
		}
	}
	if inline.Plain(nil, expression(t, "a")) || !inline.Plain(nil, expression(t, "1")) || !inline.Plain([]api.Entity{{}}, api.Node{Kind: api.Name}) {
		t.Error("Plain of other lists")
	}
	for _, kind := range []int{0, api.Class, api.Param, api.Block, api.Local, api.Call, api.New, 25, -1} {
		if inline.Plain(s, api.Node{Kind: kind, Text: "a"}) {
			t.Errorf("Plain of the kind %d", kind)
		}
	}
}

// P37.1
func TestAnswer(t *testing.T) {
	for text, want := range map[string]string{
		"int m(){return 1;}":                       "1",
		"static int m(int a){return a + m(a);}":    "a + m(a)",
		"int m(){return 1 + 2 * 3;}":               "1 + 2 * 3",
		"void m(){}":                               "-",
		"void m(){return;}":                        "-",
		"int m(){int a=1;return a;}":               "-",
		"int m(){{return 1;}}":                     "-",
		"int m(){print(1);}":                       "-",
		"int m(){if(true)return 1;else return 2;}": "-",
		"int m;": "-",
	} {
		n, m := parse.Member(text)
		if m.Code != api.OK {
			t.Fatal(text, m)
		}
		got, is := inline.Answer(n)
		if is != (want != "-") || is && print.Expression(got) != want || !is && !reflect.DeepEqual(got, api.Node{}) {
			t.Errorf("Answer(%q) = %q, %t", text, print.Expression(got), is)
		}
		if is && len(got.Kids) > 0 {
			before, _ := inline.Answer(n)
			got.Kids[0].Text = "changed"
			if again, _ := inline.Answer(n); !node.Same(again, before) {
				t.Error("the result of Answer shares memory with its argument")
			}
		}
	}
	one := api.Node{Kind: api.Int, N: 1}
	n := func(kind int, kids ...api.Node) api.Node { return api.Node{Kind: kind, Kids: kids} }
	for i, c := range []struct {
		n  api.Node
		is bool
	}{
		{n(api.Method, n(api.Block, n(api.Return, one))), true},
		{n(api.Method, n(api.Block), n(api.Param), n(api.Block, n(api.Return, one))), true},
		{n(api.Method, n(api.Block, n(api.Return, one)), n(api.Param)), false},
		{n(api.Method), false},
		{n(api.Method, n(api.Return, one)), false},
		{n(api.Method, n(api.Block, n(api.Return, one, one))), false},
		{n(api.Method, n(api.Block, n(api.Return))), false},
		{n(api.Method, n(api.Block, n(api.Print, one))), false},
		{n(api.Method, n(api.Block, n(api.Return, one), n(api.Return, one))), false},
		{n(api.Field, n(api.Block, n(api.Return, one))), false},
		{n(api.Class, n(api.Block, n(api.Return, one))), false},
		{api.Node{}, false},
	} {
		if got, is := inline.Answer(c.n); is != c.is || is && !node.Same(got, one) {
			t.Errorf("case %d: %v, %t", i, got, is)
		}
	}
}

// P37.1
func TestPut(t *testing.T) {
	for _, c := range []struct{ text, names, l, want string }{
		{"a+b", "a", "1", "1 + b"},
		{"a+b", "a b", "b a", "b + a"},
		{"a+b*a", "a b", "x+y 2", "x + y + 2 * (x + y)"},
		{"a", "a", "-1", "-1"},
		{"-a", "a", "-1", "-(-1)"},
		{"a.f(a).g", "a f g", "x y z", "x.f(x).g"},
		{"a(a)", "a", "1", "a(1)"},
		{"new a()", "a", "1", "new a()"},
		{"a+b", "", "", "a + b"},
		{"a+b", "a b", "1", "1 + b"},
		{"a+b", "a", "1 2 3", "1 + b"},
		{"a+b", "a a b", "1 2 3", "1 + 3"},
		{"a+b", "b a a", "1", "a + 1"},
		{"a+b", "a b a", "1", "1 + b"},
		{"a+b", "c A", "1 2", "a + b"},
	} {
		var l []api.Node
		for _, s := range strings.Fields(c.l) {
			l = append(l, expression(t, s))
		}
		n := expression(t, c.text)
		if got := print.Expression(inline.Put(n, strings.Fields(c.names), l)); got != c.want {
			t.Errorf("Put(%q, %q, %q) = %q, want %q", c.text, c.names, c.l, got, c.want)
		}
		if !node.Same(n, expression(t, c.text)) {
			t.Error("an argument was changed")
		}
	}
	name := func(text string, kids ...api.Node) api.Node { return api.Node{Kind: api.Name, Text: text, Kids: kids} }
	// What is inserted, and what is inside a name that stays, is not searched.
	n := api.Node{Kind: api.Block, Kids: []api.Node{name("a"), name("b", name("a")), name("a", name("c"))}}
	put := name("b", name("a"))
	want := api.Node{Kind: api.Block, Kids: []api.Node{name("b", name("a")), name("b", name("a")), name("b", name("a"))}}
	got := inline.Put(n, []string{"a"}, []api.Node{put})
	if !node.Same(got, want) {
		t.Errorf("Put = %v", got)
	}
	got.Kids[0].Kids[0].Text, got.Kids[1].Kids[0].Text = "changed", "changed"
	if put.Kids[0].Text != "a" || got.Kids[2].Kids[0].Text != "a" || n.Kids[1].Kids[0].Text != "a" {
		t.Error("the result of Put shares memory")
	}
	if got := inline.Put(name("a"), []string{"a"}, []api.Node{name("z")}); got.Text != "z" {
		t.Errorf("Put = %v", got)
	}
	deep := name("a")
	for range 500000 {
		deep = api.Node{Kind: api.Not, Kids: []api.Node{deep}}
	}
	if got := inline.Put(deep, []string{"a"}, []api.Node{{Kind: api.Int}}); node.Depth(got) != 500001 {
		t.Error("a deep tree")
	}
}

// P37.2: what becomes of calls.
func TestDo(t *testing.T) {
	for _, c := range []struct {
		l    []api.File
		id   string
		want []api.File
	}{
		{files("class A{static int s;static int t(int n){return n+s;}int m(int k){return A.t(k)*2;}}"), "A.t()", files("class A{static int s;int m(int k){return (k + A.s)*2;}}")},
		{files("class A{static int t(){return 1;}}"), "A.t()", files("class A{}")},
		{files("class A{ /*1*/ static int t ( ) { return 1 ; } /*2*/ }"), "A.t()", files("class A{ /*1*/  /*2*/ }")},
		// Calls by a bare name, by the class, by a class below, and in parentheses.
		{files("class A{static int t(int n){return -n;}int m(){return t(1)+A.t(2);}}", "class B extends A{int k(int p){return t(p)*(A).t(p)+B.t ( /*x*/ 3 ) ;}}"), "A.t()", files("class A{int m(){return (-1)+(-2);}}", "class B extends A{int k(int p){return (-p)*(-p)+(-3) ;}}")},
		// Arguments of all kinds; literals, locals, and this.
		{files("class A{int f;static int t(A a,boolean b,int n){return a.f*n;}int m(){int i=2;return t(this,true,7)+t(this,false,i);}static int k(A x){return t(x,true,0);}}"), "A.t()", files("class A{int f;int m(){int i=2;return (this.f * 7)+(this.f * i);}static int k(A x){return (x.f * 0);}}")},
		{files("class A{static boolean t(int a,int b){return a<b&&b<10;}void m(int b,int a){if(t(a,b))print(t(b,(a)));}}"), "A.t()", files("class A{void m(int b,int a){if((a < b && b < 10))print((b < a && a < 10));}}")},
		// What the answer names gets its class, whichever that is.
		{files("class Z{static int z;static int y(){return 1;}}class A extends Z{static A a;int f;static int t(int z){return z+y()+A.y()+a.f+Z.z;}}class B{int m(){return A.t(4);}}"), "A.t()", files("class Z{static int z;static int y(){return 1;}}class A extends Z{static A a;int f;}class B{int m(){return (4 + Z.y() + A.y() + A.a.f + Z.z);}}")},
		{files("class A{static int u(int a,int b){return a;}static int s;static int t(int n){return u(s,u(n,s));}static int m(){return t(5);}}"), "A.t()", files("class A{static int u(int a,int b){return a;}static int s;static int m(){return (A.u(A.s, A.u(5, A.s)));}}")},
		{files("class A{static A t(){return new A();}A m(){return t();}A k(){return A.t().m();}}"), "A.t()", files("class A{A m(){return (new A());}A k(){return (new A()).m();}}")},
		// A parameter that is used twice, and one that is not used.
		{files("class A{static int t(int a,int b){return a*a;}int m(int b){return t(b,1);}}"), "A.t()", files("class A{int m(int b){return (b * b);}}")},
		// A method with the name of another one, and a name that is also that of a field and of a parameter.
		{files("class A{}", "class B extends A{static int t(){return 2;}}", "class C{static int t(){return B.t();}}"), "B.t()", files("class A{}", "class B extends A{}", "class C{static int t(){return (2);}}")},
		{files("class A{static int t(boolean t){return A.t;}static int t;int m(){return t(true);}}"), "A.t()", files("class A{static int t;int m(){return (A.t);}}")},
	} {
		before := slices.Clone(c.l)
		got, e := inline.Do(c.l, c.id)
		if !slices.Equal(got, c.want) || e != api.OK {
			t.Errorf("Do(%v, %q) = %v, %d, want %v", c.l, c.id, got, e, c.want)
		}
		if !slices.Equal(c.l, before) {
			t.Error("an argument was changed")
		}
	}
}

// P37.2: the errors, in their order.
func TestErrors(t *testing.T) {
	good := files("class A{static int s;static int t(int n){return n;}}")
	for _, c := range []struct {
		l  []api.File
		id string
		e  api.Errno
	}{
		{files("class A{"), "x", api.ErrSyntax},
		{files("class A{int m(){}}"), "A.m()", api.ErrReturn},
		{[]api.File{{Path: ""}}, "x", api.ErrPath},
		{good, "x", api.ErrNone},
		{good, "", api.ErrNone},
		{good, "A", api.ErrNone},
		{good, "A.s", api.ErrNone},
		{good, "A.t", api.ErrNone},
		{good, "A.t()#0", api.ErrNone},
		{nil, "A.t()", api.ErrNone},
	} {
		if got, e := inline.Do(c.l, c.id); e != c.e || len(got) != 0 {
			t.Errorf("Do(%v, %q) = %v, %d, want %d", c.l, c.id, got, e, c.e)
		}
	}
}

// P37.2: what is refused.
func TestRefused(t *testing.T) {
	for _, text := range []string{
		// The method is not static, or does more than return something.
		"class A{int t(){return 1;}}",
		"class A{static void t(){}}",
		"class A{static void t(){return;}}",
		"class A{static int t(){int a=1;return a;}}",
		"class A{static int t(){{return 1;}}}",
		// The type of the answer is not that of the method.
		"class A{static A t(){return null;}}",
		"class B extends A{}class A{static A t(){return new B();}}",
		"class B extends A{}class A{static A t(B b){return b;}}",
		// It calls itself.
		"class A{static int t(int n){return t(n);}}",
		"class A{static int t(int n){return A.t(n);}}",
		"class A{static int t(int n){return 1+u(A.t(n));}static int u(int n){return n;}}",
		// It has a family.
		"class A{static int t(){return 1;}}class B extends A{static int t(){return 2;}}",
		"class Z{static int t(){return 1;}}class A extends Z{static int t(){return 2;}}",
		// Something has the name of a class.
		"class A{static int t(){return 1;}}class B{int A;}",
		"class A{static int t(){return 1;}}class B{void m(int B){}}",
		"class A{static int t(){return 1;}}class B{void m(){int A=1;}}",
		// A call behind an object.
		"class A{static int t(){return 1;}int m(){return this.t();}}",
		"class A{static int t(){return 1;}int m(A a){return a.t();}}",
		"class A{static int t(){return 1;}int m(){return new A().t();}}",
		"class A{static A a;static int t(){return 1;}int m(){return A.a.t();}}",
		// Arguments that are not plain.
		"class A{static int t(int n){return n;}int m(){return t(1+1);}}",
		"class A{static int t(int n){return n;}int m(){return t(-1);}}",
		"class A{static int t(int n){return n;}int m(){return t(t(1));}}",
		"class A{static int t(int n){return n;}int f;int m(){return t(f);}}",
		"class A{static int t(int n){return n;}static int f;int m(){return t(A.f);}}",
		"class A{static int t(int n){return n;}int f;int m(){return t(this.f);}}",
		"class A{static int t(A a){return 1;}int m(){return t(null);}}",
		"class A{static int t(A a){return 1;}int m(){return t(new A());}}",
		"class A{static int t(boolean b){return 1;}int m(){return t(!true);}}",
		// Arguments of another type than that of the parameter.
		"class A{static int t(A a){return 1;}}class B extends A{int m(B b){return A.t(b);}}",
		"class A{static int t(A a){return 1;}}class B extends A{int m(){return t(this);}}",
		// The result is no program.
		"class A{static int t(){return 1;}void m(){t();}}",
		"class A{static int t(){return 1;}void m(){A.t();}}",
	} {
		if got, e := inline.Do(files(text), "A.t()"); e != api.ErrRefused || len(got) != 0 {
			t.Errorf("Do(%q) = %v, %d", text, got, e)
		}
	}
	// One call that can't be replaced among others that can, in another file.
	l := files("class A{static int t(int n){return n;}int m(){return t(1);}}", "class B{int m(){return A.t(2)+A.t(1+2);}}")
	if got, e := inline.Do(l, "A.t()"); e != api.ErrRefused || len(got) != 0 {
		t.Errorf("%v, %d", got, e)
	}
	// A tree that would be too large.
	text := "class A{static int s;static int t(){return s*s;}int m(){return t()+t()+t()+t()+t()+t()+t()+t()+t();}}//"
	l = files(text + strings.Repeat("x", api.MaxText-len(text)))
	if got, e := inline.Do(l, "A.t()"); e != api.ErrRefused || len(got) != 0 {
		t.Errorf("%d files, %d", len(got), e)
	}
}

// P37.3
func TestConsequence(t *testing.T) {
	text := "class A{static int s;static int t(int n,boolean b){return n*n+s+u(n);}static int u(int n){s=s+n;print(s);return s;}}" +
		"class Main{static void main(){int i=0;while(i<4){print(A.t(i,true));i=i+1;boolean b=A.t(7,false)<A.u(i);print(b);}print(A.t(i,true)/A.s);}}"
	ran := func(l []api.File) run.Result {
		n, _ := parse.File(l[0].Text)
		return run.Program([][]api.Node{n}, 100000)
	}
	before := ran(files(text))
	l, e := inline.Do(files(text), "A.t()")
	after := ran(l)
	if e != api.OK || before.E != api.OK || len(before.Out) < 10 || !run.Same(before, after) || after.Steps > before.Steps {
		t.Errorf("%v, %d: %v, before %v", l, e, after, before)
	}
}
