package flow_test

import (
	"math/rand"
	"reflect"
	"strings"
	"testing"

	"concordat/api"
	"concordat/flow"
	"concordat/node"
	"concordat/parse"
)

// statement parses a statement.
func statement(t *testing.T, text string) api.Node {
	t.Helper()
	n, m := parse.Statement(text)
	if m.Code != api.OK {
		t.Fatal(text, m)
	}
	return n
}

// n returns a node with Kids.
func n(kind int, kids ...api.Node) api.Node { return api.Node{Kind: kind, Kids: kids} }

// P19.1, P19.3: whether statements end, the first one in them that is never
// reached (behind the ^), and how many are reached.
func TestStatements(t *testing.T) {
	for text, want := range map[string]struct {
		ends    bool
		reached int
	}{
		"return;":                               {false, 1},
		"return 1;":                             {false, 1},
		"a();":                                  {true, 1},
		"a=b;":                                  {true, 1},
		"int a=1;":                              {true, 1},
		"print(1);":                             {true, 1},
		"{}":                                    {true, 1},
		"{a();b();}":                            {true, 3},
		"{a();return;}":                         {false, 3},
		"{return;^m();}":                        {false, 2},
		"{return;^m();n();}":                    {false, 2},
		"{{return;}^m();}":                      {false, 3},
		"{{return;^{return;^a();}}b();}":        {false, 3},
		"while(true){}":                         {false, 2},
		"while(true)return;":                    {false, 2},
		"while(false){}":                        {true, 2},
		"while(a){}":                            {true, 2},
		"while(a)return;":                       {true, 2},
		"while(!false){}":                       {true, 2},
		"while((true)){}":                       {false, 2},
		"while(true&&true){}":                   {true, 2},
		"while(1){}":                            {true, 2},
		"{while(true){}^a();}":                  {false, 3},
		"while(a){return;^b();}":                {true, 3},
		"if(a)return;":                          {true, 2},
		"if(a)return;else b();":                 {true, 3},
		"if(a)b();else return;":                 {true, 3},
		"if(a)return;else return;":              {false, 3},
		"if(true)return;":                       {true, 2},
		"if(a)return 1;else while(true){}":      {false, 4},
		"{if(a)return;else return;^b();}":       {false, 4},
		"{if(a)return;b();}":                    {true, 4},
		"if(a){return;^b();}else{return;^c();}": {false, 5},
		"if(a)if(b)return;else return;else return;": {false, 5},
		"{if(a){return;^b();}c();return;^d();}":     {false, 6},
		"{int a=1;{while(true){a();}}^b();{c();}}":  {false, 6},
		"{a();{b();{c();{return;}^d();}e();}f();}":  {false, 8},
		"if(a){if(b){return;}else{return;}^c();}":   {true, 7},
	} {
		at := strings.Index(text, "^")
		x := statement(t, strings.ReplaceAll(text, "^", ""))
		before, _ := node.Get(x, nil)
		if got := flow.Ends(x); got != want.ends {
			t.Errorf("Ends(%q) = %t", text, got)
		}
		if got := flow.Reached(x); got != want.reached {
			t.Errorf("Reached(%q) = %d, want %d", text, got, want.reached)
		}
		dead, is := flow.Dead(x)
		if is != (at >= 0) || is && dead.From != at || !is && !reflect.DeepEqual(dead, api.Node{}) {
			t.Errorf("Dead(%q) = %v, %t, want %d", text, dead, is, at)
		}
		if is && len(dead.Kids) > 0 {
			dead.Kids[0].Text = "changed"
		}
		if !node.Same(x, before) {
			t.Errorf("%q: an argument was changed", text)
		}
	}
}

// P19.1, P19.3: nodes that parse never returns.
func TestOtherNodes(t *testing.T) {
	ret, do, yes := n(api.Return), n(api.Do), api.Node{Kind: api.Bool, N: 1}
	for i, c := range []struct {
		n       api.Node
		ends    bool
		reached int
		dead    bool
	}{
		{api.Node{}, true, 0, false},
		{n(api.Int), true, 0, false},
		{n(api.Class, n(api.Block, ret, do)), true, 0, true},
		{n(api.Method, ret), true, 0, false},
		{n(api.While), true, 1, false},
		{n(api.While, yes), false, 1, false},
		{n(api.While, api.Node{Kind: api.Bool, N: 2}), true, 1, false},
		{n(api.While, api.Node{Kind: api.Int, N: 1}), true, 1, false},
		{n(api.While, do, yes), true, 2, false},
		{n(api.If), true, 1, false},
		{n(api.If, ret), true, 2, false},
		{n(api.If, ret, ret), true, 3, false},
		{n(api.If, do, ret, ret), false, 4, false},
		{n(api.If, ret, do, ret), true, 4, false},
		{n(api.If, yes, ret, ret, ret), true, 4, false},
		{n(api.Block, yes, ret), false, 2, false},
		{n(api.Block, ret, yes), false, 2, true},
		{n(api.Do, n(api.Block, ret, do)), true, 3, true},
		{n(api.Do, ret, do), true, 3, false},
		{n(api.Return, n(api.Block, ret), do), false, 4, false},
		{n(api.Not, do), true, 0, false},
		{n(api.Do, n(api.Not, do)), true, 1, false},
		{n(api.Local, n(api.Print), n(api.Set)), true, 3, false},
		{n(99, ret), true, 0, false},
		{n(api.Block, n(api.Not, ret), do), true, 2, false},
	} {
		_, dead := flow.Dead(c.n)
		if ends, reached := flow.Ends(c.n), flow.Reached(c.n); ends != c.ends || reached != c.reached || dead != c.dead {
			t.Errorf("case %d: %t, %d, %t", i, ends, reached, dead)
		}
	}
}

// P19.2
func TestCheck(t *testing.T) {
	for _, c := range []struct {
		texts []string
		code  api.Errno
	}{
		{nil, api.OK},
		{[]string{"class A{int f;void m(){}void n(){return;}int o(){return 1;}}"}, api.OK},
		{[]string{"class A{int ^m(){}}"}, api.ErrReturn},
		{[]string{"class A{boolean ^m(){if(a)return b;}}"}, api.ErrReturn},
		{[]string{"class A{A m(){while(true){}}}"}, api.OK},
		{[]string{"class A{A ^m(){while(a)return a;}}"}, api.ErrReturn},
		{[]string{"class A{static int m(int a){if(a)return 1;else return 2;}}"}, api.OK},
		{[]string{"class A{void m(){return;^{}}}"}, api.ErrDead},
		{[]string{"class A{int m(){while(true){}^return 1;}}"}, api.ErrDead},
		{[]string{"class A{int m(){if(a){return 1;^b();}}}"}, api.ErrDead},
		{[]string{"class A{int m(){{return 1;^b();}c();}}"}, api.ErrDead},
		{[]string{"class A{void m(){}}class B{}", "class C{int ^m(){}void n(){return;{}}}", "class D{int m(){}}"}, api.ErrReturn},
		{[]string{"class A{void m(){return;^a();}int n(){}}"}, api.ErrDead},
	} {
		var files [][]api.Node
		file, at := 0, 0
		for i, text := range c.texts {
			if k := strings.Index(text, "^"); k >= 0 {
				file, at = i, k
			}
			l, m := parse.File(strings.Replace(text, "^", "", 1))
			if m.Code != api.OK {
				t.Fatal(text, m)
			}
			files = append(files, l)
		}
		if m := flow.Check(files); m != (api.Mistake{Code: c.code, File: file, At: at}) {
			t.Errorf("%q: %v, want %d at %d:%d", c.texts, m, c.code, file, at)
		}
	}
	bad := api.Node{Kind: api.Method, Type: "int", At: 7, Kids: []api.Node{n(api.Block)}}
	for i, c := range []struct {
		l    []api.Node
		want api.Mistake
	}{
		{[]api.Node{n(api.Block, bad), bad}, api.Mistake{}},
		{[]api.Node{n(api.Class, n(api.Field, bad), n(api.Block, n(api.Return), n(api.Do)), api.Node{Kind: api.Method, Type: "int"})}, api.Mistake{}},
		{[]api.Node{n(api.Class, bad)}, api.Mistake{Code: api.ErrReturn, At: 7}},
		{[]api.Node{n(api.Class, api.Node{Kind: api.Method, Type: "int", Kids: []api.Node{n(api.Block, n(api.Return), n(api.Do)), n(api.Return)}})}, api.Mistake{}},
		{[]api.Node{n(api.Class, api.Node{Kind: api.Method, Type: "", At: 3, Kids: []api.Node{n(api.Return), n(api.Param)}})}, api.Mistake{Code: api.ErrReturn, At: 3}},
	} {
		if m := flow.Check([][]api.Node{c.l}); m != c.want {
			t.Errorf("case %d: %v, want %v", i, m, c.want)
		}
	}
}

// random returns a random tree.
func random(r *rand.Rand, depth int) api.Node {
	x := api.Node{Kind: []int{api.Block, api.Block, api.Block, api.If, api.If, api.While, api.Return, api.Do, api.Bool, api.Local, api.Not}[r.Intn(11)], N: r.Int63n(2), From: r.Intn(1000)}
	if depth > 0 {
		for range r.Intn(4) {
			x.Kids = append(x.Kids, random(r, depth-1))
		}
	}
	return x
}

// ends, dead and reached are what P19.1 and P19.3 say, word by word.
func ends(x api.Node) bool {
	switch k := x.Kids; {
	case x.Kind == api.Return:
		return false
	case x.Kind == api.While:
		return !(len(k) > 0 && k[0].Kind == api.Bool && k[0].N == 1)
	case x.Kind == api.If && len(k) == 3:
		return ends(k[1]) || ends(k[2])
	case x.Kind == api.Block:
		for _, kid := range k {
			if !ends(kid) {
				return false
			}
		}
	}
	return true
}

func dead(x api.Node) *api.Node {
	over := false
	for _, kid := range x.Kids {
		if over && x.Kind == api.Block {
			return &kid
		}
		if found := dead(kid); found != nil {
			return found
		}
		over = over || !ends(kid)
	}
	return nil
}

func reached(x api.Node) int {
	switch x.Kind {
	case api.Local, api.Set, api.Do, api.If, api.While, api.Return, api.Print, api.Block:
	default:
		return 0
	}
	many := 1
	for _, kid := range x.Kids {
		many += reached(kid)
		if x.Kind == api.Block && !ends(kid) {
			break
		}
	}
	return many
}

// P19.1, P19.3, P19.4
func TestRandom(t *testing.T) {
	r := rand.New(rand.NewSource(18))
	for range 5000 {
		x := random(r, 5)
		if flow.Ends(x) != ends(x) || flow.Reached(x) != reached(x) {
			t.Fatalf("%v: %t, %d", x, flow.Ends(x), flow.Reached(x))
		}
		got, is := flow.Dead(x)
		want := dead(x)
		if is != (want != nil) || is && !reflect.DeepEqual(got, *want) {
			t.Fatalf("%v: %v, %t", x, got, is)
		}
		if x.Kind == api.Block {
			all := true
			for _, kid := range x.Kids {
				all = all && flow.Ends(kid)
			}
			if flow.Ends(x) != all {
				t.Fatalf("%v", x)
			}
		}
	}
	for _, text := range []string{"{int a=1;if(b){c();}else while(d)e();return;}", "{a=b;{print(1);}}"} {
		x := statement(t, text)
		statements := 0
		for _, y := range node.All(x, 0) {
			if y.Kind >= api.Block && y.Kind <= api.Print {
				statements++
			}
		}
		if got := flow.Reached(x); got != statements {
			t.Errorf("Reached(%q) = %d of %d", text, got, statements)
		}
	}
}

// Rule 1: calls return for trees of any depth.
func TestDeep(t *testing.T) {
	x := n(api.Block, n(api.Return), n(api.Do))
	for range 1000000 {
		x = n(api.Block, x)
	}
	if _, is := flow.Dead(x); !is || flow.Ends(x) || flow.Reached(x) != 1000002 {
		t.Error("a deep tree")
	}
}
