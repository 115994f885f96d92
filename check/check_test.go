package check_test

import (
	"fmt"
	"reflect"
	"slices"
	"strings"
	"testing"

	"concordat/api"
	"concordat/bind"
	"concordat/check"
	"concordat/decls"
	"concordat/parse"
)

// files returns a tree with the files a, b, c and so on.
func files(texts ...string) []api.File {
	var l []api.File
	for i, text := range texts {
		l = append(l, api.File{Path: string(rune('a' + i)), Text: text})
	}
	return l
}

// many returns n files without text.
func many(n int) []api.File {
	var l []api.File
	for i := range n {
		l = append(l, api.File{Path: fmt.Sprintf("f%02d", i)})
	}
	return l
}

// trees are trees and the mistakes that they have: the first one, and whether
// Parse tells it.
var trees = []struct {
	l      []api.File
	m      api.Mistake
	parses bool
}{
	{nil, api.Mistake{}, true},
	{many(api.MaxFiles), api.Mistake{}, true},
	{files("", " // x"), api.Mistake{}, true},
	{files("class A{int m(){return 1;}}", "class B extends A{}"), api.Mistake{}, true},
	{files("class B extends A{}", "", "class A{}"), api.Mistake{}, true},
	// The tree comes first.
	{many(api.MaxFiles + 1), api.Mistake{Code: api.ErrLimit}, false},
	{files("x", strings.Repeat(" ", api.MaxText)), api.Mistake{Code: api.ErrLimit}, false},
	{files(strings.Repeat(" ", api.MaxText)), api.Mistake{}, true},
	{[]api.File{{Path: "b", Text: "x"}, {Path: "a"}}, api.Mistake{Code: api.ErrPath}, false},
	{[]api.File{{Path: "a"}, {Path: "-", Text: "x"}}, api.Mistake{Code: api.ErrPath}, false},
	// Then the files, one after the other.
	{files("class A{int m(){}}", "class B{", "&"), api.Mistake{Code: api.ErrSyntax, File: 1, At: 8}, false},
	{files("class A{}", "class B{} &", "class"), api.Mistake{Code: api.ErrByte, File: 1, At: 10}, false},
	{files("", "", "/*"), api.Mistake{Code: api.ErrNote, File: 2}, false},
	{files("class A{int m(){return " + strings.Repeat("(", 70) + "1" + strings.Repeat(")", 70) + ";}}"), api.Mistake{Code: api.ErrLimit, At: 23 + 58}, false},
	// Then the types, then what is reached.
	{files("class A{int m(){}}", "class B{int m(){return true;}}"), api.Mistake{Code: api.ErrType, File: 1, At: 23}, true},
	{files("class A{int m(){}}", "class B{int m(){return x;}}"), api.Mistake{Code: api.ErrName, File: 1, At: 23}, true},
	{files("class A{int m(){}}", "class A{}"), api.Mistake{Code: api.ErrTwice, File: 1, At: 6}, true},
	{files("class A{}", "class B{int m(){}}"), api.Mistake{Code: api.ErrReturn, File: 1, At: 12}, true},
	{files("class A{}", "class B{void m(){return;m();}}"), api.Mistake{Code: api.ErrDead, File: 1, At: 24}, true},
	{files("class A extends B{}", "class B extends A{}"), api.Mistake{Code: api.ErrSuper, At: 6}, true},
}

// P23.1
func TestParseAndTree(t *testing.T) {
	for i, c := range trees {
		if m := check.Tree(c.l); m != c.m {
			t.Errorf("case %d: Tree = %v, want %v", i, m, c.m)
		}
		got, m := check.Parse(c.l)
		if !c.parses {
			if len(got) != 0 || m != c.m {
				t.Errorf("case %d: Parse = %v, %v", i, got, m)
			}
			continue
		}
		if m != (api.Mistake{}) || len(got) != len(c.l) {
			t.Errorf("case %d: Parse = %v, %v", i, got, m)
			continue
		}
		for k, f := range c.l {
			want, _ := parse.File(f.Text)
			if len(got[k])+len(want) > 0 && !reflect.DeepEqual(got[k], want) {
				t.Errorf("case %d: file %d is %v", i, k, got[k])
			}
		}
	}
}

// P23.2
func TestTableUsesAndIds(t *testing.T) {
	for i, c := range trees {
		table, m1 := check.Table(c.l)
		uses, m2 := check.Uses(c.l)
		ids, m3 := check.Ids(c.l)
		if m1 != c.m || m2 != c.m || m3 != c.m {
			t.Errorf("case %d: %v, %v, %v, want %v", i, m1, m2, m3, c.m)
		}
		if c.m.Code != api.OK {
			if len(table)+len(uses)+len(ids) > 0 {
				t.Errorf("case %d: %v, %v, %v", i, table, uses, ids)
			}
			continue
		}
		nodes, _ := check.Parse(c.l)
		wantTable, _ := decls.Table(nodes)
		wantUses, _ := bind.Uses(nodes)
		if len(table)+len(wantTable) > 0 && !reflect.DeepEqual(table, wantTable) || !slices.Equal(uses, wantUses) {
			t.Errorf("case %d: %v, %v", i, table, uses)
		}
		var wantIds []string
		for _, u := range wantUses {
			wantIds = append(wantIds, u.Id)
		}
		if !slices.Equal(ids, wantIds) {
			t.Errorf("case %d: %q", i, ids)
		}
	}
	ids, _ := check.Ids(files("class B extends A{int f;}", "class A{int m(A a){return 1;}}"))
	if got := strings.Join(ids, " "); got != "B A B.f A A.m() A A.m()#0" {
		t.Errorf("%q", got)
	}
}

// P23.3
func TestSwap(t *testing.T) {
	for _, c := range []struct{ id, from, to, want string }{
		{"A", "A", "B", "B"},
		{"A.m()", "A.m()", "A.n()", "A.n()"},
		{"A.m()#0", "A.m()", "A.n()", "A.n()#0"},
		{"A.m()#12", "A", "B", "B.m()#12"},
		{"A.f", "A", "Longer", "Longer.f"},
		{"AB.f", "A", "B", "AB.f"},
		{"AB", "A", "B", "AB"},
		{"A.mm()", "A.m", "A.n", "A.mm()"},
		{"A.m()", "A.m", "A.n", "A.m()"},
		{"A.ff", "A.f", "A.g", "A.ff"},
		{"B.A", "A", "C", "B.A"},
		{"A", "A.f", "B.f", "A"},
		{"A.f", "A.f", "", ""},
		{"A.f", "A", "", ".f"},
		{"A#", "A", "B", "B#"},
		{"A.", "A", "B", "B."},
		{"A.f", "", "B", "A.f"},
		{"", "", "B", ""},
		{".f", "", "B", ".f"},
		{"#0", "", "B", "#0"},
		{"", "A", "B", ""},
		{"A.A.A", "A", "B", "B.A.A"},
		{"A..", "A.", "B", "B."},
		{"A(", "A", "B", "A("},
	} {
		if got := check.Swap(c.id, c.from, c.to); got != c.want {
			t.Errorf("Swap(%q, %q, %q) = %q, want %q", c.id, c.from, c.to, got, c.want)
		}
	}
}

// P23.4
func TestConsequences(t *testing.T) {
	text := "class A{int f;A a;int m(int p){if(p==f)return a.m(p-1);return B.s;}}class B extends A{static int s;void v(){s=m(1);}}"
	spaced := strings.NewReplacer("{", " {/**/\n", ".", " . ", "(", "( ", ";", ";//\n", "=", " = ", "= = ", "==").Replace(text)
	spaced = strings.ReplaceAll(spaced, " =  = ", " == ")
	want, m := check.Ids(files(text))
	got, m2 := check.Ids(files(spaced))
	if m.Code != api.OK || m2.Code != api.OK || !slices.Equal(got, want) {
		t.Errorf("%q %v, %q %v", want, m, got, m2)
	}
	for _, c := range []struct {
		a, b string
		is   bool
	}{
		{"class A{B b;}", "class B extends A{}", true}, {"class A{int m(){return B.s;}}", "class B{static int s;}", true},
		{"class A{int m(){return B.s;}}", "class B{int s;}", false}, {"class A{int f;}", "class B extends A{int f;}", false}, {"class A{}", "class A{}", false},
	} {
		for _, l := range [][]api.File{files(c.a, c.b), files(c.b, c.a), files(c.a + c.b), files(c.b + c.a)} {
			if m := check.Tree(l); (m.Code == api.OK) != c.is {
				t.Errorf("%v: %v", l, m)
			}
		}
	}
}
