package run_test

import (
	"math"
	"slices"
	"strings"
	"testing"

	"concordat/api"
	"concordat/parse"
	"concordat/run"
)

// files parses texts.
func files(t *testing.T, texts ...string) [][]api.Node {
	t.Helper()
	var out [][]api.Node
	for _, text := range texts {
		l, m := parse.File(text)
		if m.Code != api.OK {
			t.Fatal(text, m)
		}
		out = append(out, l)
	}
	return out
}

// main runs a program in which the body of Main.main() is given, and further
// members and classes.
func main(t *testing.T, body, rest string, fuel int) run.Result {
	t.Helper()
	return run.Program(files(t, "class Main{static void main(){"+body+"}"+rest), fuel)
}

// expect checks what a run printed, how it ended, and how many steps it took;
// below 0 steps are not checked.
func expect(t *testing.T, name string, r run.Result, out string, e api.Errno, steps int) {
	t.Helper()
	if strings.Join(r.Out, " ") != out || r.E != e || steps >= 0 && r.Steps != steps {
		t.Errorf("%s: %q, %d, %d steps, want %q, %d, %d", name, r.Out, r.E, r.Steps, out, e, steps)
	}
}

// P22.1
func TestProgram(t *testing.T) {
	for _, c := range []struct {
		text string
		e    api.Errno
	}{
		{"class Main{static void main(){}}", api.OK},
		{"", api.ErrMain},
		{"class A{static void main(){}}", api.ErrMain},
		{"class Main{void main(){}}", api.ErrMain},
		{"class Main{static int main(){return 1;}}", api.ErrMain},
		{"class Main{static void main(int a){}}", api.ErrMain},
		{"class Main{static void Main(){}static int main;}", api.ErrMain},
		{"class A{static void main(){}}class Main extends A{}", api.ErrMain},
		{"class Main{static void main(){return 1;}}", api.ErrType},
		{"class Main{static void main(){x=1;}}", api.ErrName},
		{"class Main{static void main(){}}class Main{}", api.ErrTwice},
		{"class Main{static void main(){}}class A extends A{}", api.ErrSuper},
		{"class Main{static void main(){return;{}}}", api.ErrDead},
		{"class Main{static void main(){}int m(){}}", api.ErrReturn},
		{"class A{int m(){}}", api.ErrReturn},
		{"class A{int m(){}int n(){return true;}}", api.ErrType},
	} {
		steps := 0
		if c.e == api.OK {
			steps = 1
		}
		expect(t, c.text, run.Program(files(t, c.text), 1000), "", c.e, steps)
	}
	expect(t, "two files", run.Program(files(t, "class A{static int f;}", "class Main{static void main(){print(A.f);}}"), 100), "0", api.OK, 3)
}

// P22.2, P22.3: what statements and expressions do, and how many steps they take.
func TestSteps(t *testing.T) {
	const rest = `static int s;static boolean b;static A a;static int one(){s=s+1;return s;}static void nothing(){}static int add(int x,int y){return x*10+y;}}
class A{int f;A a;static int g;int get(){return f;}A self(){return this;}void put(int x){f=x;}int two(int x,int y){return x*10+y;}static int h(){return 7;}}
class B extends A{int get(){return f+100;}int up(){return get();}}`
	for _, c := range []struct {
		body, out string
		steps     int
	}{
		{"", "", 1},
		{"print(1+2);", "3", 5},
		{"{}", "", 2},
		{"{{}{}}", "", 4},
		{"int x=1;print(x);", "1", 5},
		{"int x=1;x=2;print(x);", "2", 7},
		{"s=5;print(s);", "5", 5},
		{"Main.s=5;print(Main.s);", "5", 5},
		{"return;", "", 2},
		{"if(true)print(1);", "1", 5},
		{"if(false)print(1);", "", 3},
		{"if(false)print(1);else print(2);", "2", 5},
		{"if(true){return;}print(1);", "", 5},
		{"while(s<2)s=s+1;print(s);", "2", 1 + 1 + 3*3 + 2*4 + 2},
		{"while(true){return;}", "", 5},
		{"while(false){}", "", 3},
		{"while(true){if(s==3)return;s=s+1;print(s);}", "1 2 3", -1},
		{"nothing();", "", 4},
		{"Main.nothing();", "", 4},
		{"one();print(s);", "1", -1},
		{"print(one()+one()*one());", "7", -1},
		{"print(add(one(),one()));", "12", -1},
		{"print(one()-one());", "-1", -1},
		// Literals and operators.
		{"print(2147483647+1);", "-2147483648", 5},
		{"print(-1);", "-1", 4},
		{"print(-7/2);print(-7%2);", "-3 -1", -1},
		{"print(1<2);print(2<=1);print(1>2);print(2>=2);print(1==1);print(1!=1);", "true false false true true false", -1},
		{"print(!true);print(!false);", "false true", 7},
		{"print(true==true);print(true!=false);", "true true", -1},
		{"print(null==null);print(null!=null);", "true false", 9},
		{"print(a==null);a=new A();print(a==null);print(a==a);print(a!=new A());print(a.self()==a);", "true false true true true", -1},
		// && and || evaluate the second operand only if they must.
		{"print(true&&true);", "true", 5},
		{"print(true&&false);", "false", 5},
		{"print(false&&1/0==1);", "false", 4},
		{"print(true||1/0==1);", "true", 4},
		{"print(false||true);", "true", 5},
		{"print(false||false);", "false", 5},
		{"print(s==0||one()==1);print(s);", "true 0", -1},
		{"print(s==1&&one()==1);print(s);", "false 0", -1},
		// Initial values.
		{"print(s);print(b);print(a==null);", "0 false true", -1},
		{"A x=new A();print(x.f);print(x.a==null);print(A.g);", "0 true 0", -1},
		// Objects, fields, and this.
		{"A x=new A();x.f=3;print(x.f);", "3", 9},
		{"A x=new A();x.put(4);print(x.get());", "4", -1},
		{"A x=new A();A y=new A();x.f=1;y.f=2;print(x.f);print(y.f);", "1 2", -1},
		{"A x=new A();A y=x;y.f=1;print(x.f);", "1", -1},
		{"A x=new A();x.a=x;x.a.a.a.f=9;print(x.f);", "9", -1},
		{"A x=new A();x.self().self().f=5;print(x.self().f);", "5", -1},
		// A static field is the same for all objects and by all names.
		{"A x=new A();A y=new B();x.g=1;print(y.g);print(A.g);print(B.g);B.g=2;print(x.g);", "1 1 1 2", -1},
		// A static method by an object, even by null; the qualifier is evaluated.
		{"A x=null;print(x.h());", "7", 9},
		{"print(A.h());print(B.h());print(new A().h());", "7 7 7", -1},
		// The class of the object selects the method; a Call selects as well.
		{"A x=new B();x.f=1;print(x.get());", "101", -1},
		{"B x=new B();print(x.up());A y=x;print(y.get());print(new A().get());", "100 100 0", -1},
		// Arguments from left to right, after the qualifier.
		{"print(new A().two(one(),one()));print(s);", "12 2", -1},
		// Locals of a block begin anew each time, and end with it.
		{"int i=0;while(i<3){int x=i*2;i=i+1;print(x);}", "0 2 4", -1},
		{"{int x=1;print(x);}{boolean x=true;print(x);}", "1 true", -1},
	} {
		expect(t, c.body, main(t, c.body, rest, 100000), c.out, api.OK, c.steps)
	}
}

// P22.2, P22.3: more about methods and recursion.
func TestMethods(t *testing.T) {
	expect(t, "factorial", main(t, "print(f(10));", "static int f(int n){if(n<2)return 1;return n*f(n-1);}}", 100000), "3628800", api.OK, -1)
	expect(t, "locals", main(t, "print(f(3));", "static int f(int n){int k=n;if(n>0){int j=f(n-1);k=k*10+j;}return k;}}", 100000), "60", api.OK, -1)
	expect(t, "parameters", main(t, "int n=1;f(n);print(n);", "static void f(int n){n=2;print(n);}}", 100000), "2 1", api.OK, -1)
	expect(t, "mutual", main(t, "print(even(9));", "static boolean even(int n){if(n==0)return true;return odd(n-1);}static boolean odd(int n){if(n==0)return false;return even(n-1);}}", 100000), "false", api.OK, -1)
	expect(t, "returns", main(t, "print(f());", "static int f(){while(true){{if(true)return 3;}}}}", 1000), "3", api.OK, -1)
	expect(t, "this", main(t, "new A().m();", "}class A{int f;void m(){f=1;this.f=f+1;A f=this;f.f=f.f*5;print(f.f);n();}void n(){print(f);}}", 1000), "10 10", api.OK, -1)
	expect(t, "override", main(t, "A a=new C();a.m();a=new B();a.m();a=new A();a.m();", "}class A{void m(){print(1);n();}void n(){print(2);}}class B extends A{void n(){print(3);}}class C extends B{void m(){print(4);n();}}", 1000), "4 3 1 3 1 2", api.OK, -1)
	expect(t, "static stays", main(t, "B.m();", "}class A{static void m(){print(1);n();}static void n(){print(2);}}class B extends A{static void n(){print(3);}}", 1000), "1 2", api.OK, -1)
	expect(t, "field of the class above", main(t, "B b=new B();b.m();print(b.f);", "}class A{int f;}class B extends A{void m(){f=6;}}", 1000), "6", api.OK, -1)
	expect(t, "name of a class", main(t, "A A=new A();A.f=1;print(A.f);", "}class A{int f;}", 1000), "1", api.OK, -1)
}

// P22.1 to P22.3: the errors that end a run, with what was printed before.
func TestErrors(t *testing.T) {
	const rest = `static A a;static int s;static int hit(int n){print(n);return n;}static A none(){print(9);return null;}}
class A{int f;static int g;A a;int m(int x){return x;}void v(){}static void w(){}}`
	for _, c := range []struct {
		body, out string
		e         api.Errno
		steps     int
	}{
		{"print(1);print(1/0);print(2);", "1", api.ErrZero, 7},
		{"print(1%s);", "", api.ErrZero, 5},
		{"print(hit(1)/hit(0));", "1 0", api.ErrZero, -1},
		{"print(a.f);", "", api.ErrNull, 4},
		{"a.f=1;", "", api.ErrNull, 4},
		{"a.f=hit(1);", "1", api.ErrNull, -1},
		{"a.f=1/0;", "", api.ErrZero, -1},
		{"none().f=hit(1);", "9 1", api.ErrNull, -1},
		{"print(a.g);", "", api.ErrNull, 4},
		{"a.g=1;", "", api.ErrNull, 4},
		{"none().g=hit(2);", "9 2", api.ErrNull, -1},
		{"print(a.a.a.f);", "", api.ErrNull, -1},
		{"a=new A();print(a.a==null);a.a.v();", "true", api.ErrNull, -1},
		{"a.v();", "", api.ErrNull, 4},
		{"a.m(hit(5));", "5", api.ErrNull, -1},
		{"print(none().m(hit(5)));", "9 5", api.ErrNull, -1},
		{"a.w();print(3);", "3", api.OK, -1},
		{"hit(1);if(a.f==1)hit(2);", "1", api.ErrNull, -1},
		{"while(true){s=s+1;print(s);if(10/(3-s)==1){}}", "1 2 3", api.ErrZero, -1},
	} {
		expect(t, c.body, main(t, c.body, rest, 100000), c.out, c.e, c.steps)
	}
	expect(t, "too many objects", main(t, "while(true){a=new A();}", rest, 1000000), "", api.ErrLimit, 2+4*(api.MaxObject+1))
}

// P22.3: MaxCalls calls may be active, Main.main() not counted.
func TestCallDepth(t *testing.T) {
	const static = "static int s;static void f(int n){s=s+1;print(s);if(n>1)f(n-1);}}"
	const virtual = "}class A{int s;void f(int n){s=s+1;print(s);if(n>1)this.f(n-1);}}"
	for _, c := range []struct {
		body, rest string
		e          api.Errno
	}{
		{"f(200);", static, api.OK}, {"f(201);", static, api.ErrDepth}, {"Main.f(1000);", static, api.ErrDepth}, {"f(150);f(50);", static, api.OK},
		{"new A().f(200);", virtual, api.OK}, {"new A().f(201);", virtual, api.ErrDepth},
	} {
		r := main(t, c.body, c.rest, 1000000)
		if r.E != c.e || len(r.Out) != 200 || r.Out[199] != "200" {
			t.Errorf("%s: %d, %d calls", c.body, r.E, len(r.Out))
		}
	}
	// The arguments and the receiver come before the depth.
	expect(t, "arguments", main(t, "f();", "static void f(){f2();}static void f2(){f();}}", 100000), "", api.ErrDepth, -1)
	r := main(t, "f(0);", "static int f(int n){if(n==200)return f(1/0);return f(n+1);}}", 100000)
	expect(t, "the last argument", r, "", api.ErrDepth, -1)
	r = main(t, "f(0);", "static int f(int n){if(n==199)return f(1/0);return f(n+1);}}", 100000)
	expect(t, "the last argument", r, "", api.ErrZero, -1)
	r = main(t, "f(1,null);", "static void f(int n,A a){if(n==200)a.m();f(n+1,a);}}class A{void m(){}}", 100000)
	expect(t, "the receiver", r, "", api.ErrNull, -1)
	expect(t, "main as a method", main(t, "s=s+1;print(s);if(s<201)main();", "static int s;}", 100000), strings.Join(run.Program(files(t, "class Main{static void main(){int i=1;while(i<202){print(i);i=i+1;}}}"), 100000).Out, " "), api.OK, -1)
}

// P22.1, P22.5
func TestFuel(t *testing.T) {
	text := "class Main{static int s;static int f(int n){print(n);return n+1;}static void main(){int i=0;while(i<4){i=f(i);if(i==3)s=i;A a=new A();a.v=i;print(a.v+Main.s);}print(i/s);}}class A{int v;}"
	p := files(t, text)
	whole := run.Program(p, 1000000)
	if whole.E != api.OK || whole.Steps < 100 {
		t.Fatal(whole)
	}
	var before run.Result
	for fuel := -2; fuel < whole.Steps+3; fuel++ {
		r := run.Program(p, fuel)
		if fuel >= whole.Steps {
			if !run.Same(r, whole) || r.Steps != whole.Steps {
				t.Fatalf("fuel %d: %v", fuel, r)
			}
			continue
		}
		if r.E != api.ErrFuel || r.Steps != max(fuel, 0) || !slices.Equal(r.Out, whole.Out[:len(r.Out)]) || len(r.Out) < len(before.Out) {
			t.Fatalf("fuel %d: %v", fuel, r)
		}
		before = r
	}
	for _, fuel := range []int{math.MinInt, 0} {
		expect(t, "no fuel", run.Program(p, fuel), "", api.ErrFuel, 0)
	}
	if r := run.Program(p, math.MaxInt); !run.Same(r, whole) {
		t.Error(r)
	}
	expect(t, "for ever", main(t, "while(true){}", "}", 1000), "", api.ErrFuel, 1000)
	expect(t, "for ever", main(t, "while(true){print(1);}", "}", 6), "1", api.ErrFuel, 6)
	expect(t, "wrong without fuel", run.Program(files(t, "class A{int m(){}}"), 0), "", api.ErrReturn, 0)
	expect(t, "nothing without fuel", run.Program(nil, 0), "", api.ErrMain, 0)
}

// P22.4
func TestSame(t *testing.T) {
	a := run.Result{Out: []string{"1", "2"}, E: api.ErrZero, Steps: 5}
	for _, c := range []struct {
		b    run.Result
		want bool
	}{
		{run.Result{Out: []string{"1", "2"}, E: api.ErrZero, Steps: 6}, true},
		{run.Result{Out: []string{"1", "2"}, E: api.OK, Steps: 5}, false},
		{run.Result{Out: []string{"1"}, E: api.ErrZero, Steps: 5}, false},
		{run.Result{Out: []string{"1", "2", ""}, E: api.ErrZero, Steps: 5}, false},
		{run.Result{Out: []string{"2", "1"}, E: api.ErrZero, Steps: 5}, false},
		{run.Result{E: api.ErrZero}, false},
	} {
		if run.Same(a, c.b) != c.want || run.Same(c.b, a) != c.want {
			t.Errorf("Same(%v, %v) is not %t", a, c.b, c.want)
		}
	}
	if !run.Same(run.Result{}, run.Result{Out: []string{}}) {
		t.Error("nothing is not the same as nothing")
	}
}

// P22.5: the order of files and classes changes nothing.
func TestAnyOrder(t *testing.T) {
	classes := []string{
		"class Main{static void main(){A a=new B();a.m(3);print(C.s);B.k();}}",
		"class A{int f;void m(int n){f=n;print(f);C.s=n;}}",
		"class B extends A{void m(int n){f=n+1;print(f);C.s=f;}static void k(){print(new C()==null);}}",
		"class C{static int s;}",
	}
	want := run.Program(files(t, classes...), 1000)
	expect(t, "in order", want, "4 4 false", api.OK, -1)
	for i := range classes {
		for k := range classes {
			l := slices.Clone(classes)
			l[i], l[k] = l[k], l[i]
			for _, texts := range [][]string{l, {strings.Join(l, "")}, {l[0], l[1] + l[2], l[3]}} {
				if r := run.Program(files(t, texts...), 1000); !run.Same(r, want) || r.Steps != want.Steps {
					t.Errorf("%q: %v", texts, r)
				}
			}
		}
	}
}

// Rule 8: calls return for nodes that parse never returns.
func TestOtherNodes(t *testing.T) {
	for kind := range 27 {
		for many := range 4 {
			for _, at := range []int{-1, 0} {
				n := api.Node{Kind: kind, Text: "main", Type: "void", N: 1, At: at, TypeAt: at}
				for range many {
					n.Kids = append(n.Kids, api.Node{Kind: api.Bool, N: 1, At: -1, TypeAt: -1})
				}
				for _, kids := range [][]api.Node{{n}, {{Kind: api.Block, At: -1, TypeAt: -1, Kids: []api.Node{n}}}, {{Kind: api.Do, At: -1, TypeAt: -1, Kids: []api.Node{n}}}} {
					method := api.Node{Kind: api.Method, Text: "main", Type: "void", N: 1, At: -1, TypeAt: -1, Kids: kids}
					run.Program([][]api.Node{{n, {Kind: api.Class, Text: "Main", At: -1, TypeAt: -1, Kids: []api.Node{method, n}}}}, 1000)
					run.Program([][]api.Node{{n, {Kind: api.Class, Text: "Main", At: -1, TypeAt: -1, Kids: []api.Node{method}}}}, 1000)
				}
			}
		}
	}
	run.Program([][]api.Node{{{Kind: api.Class, Text: "Main", Kids: []api.Node{{Kind: api.Method, Text: "main", Type: "void", N: 1}}}}}, 1000)
}
