package names_test

import (
	"reflect"
	"testing"

	"concordat/api"
	"concordat/bind"
	"concordat/decls"
	"concordat/names"
	"concordat/parse"
)

const program = `class A{int f;static A s;A m(int p){int q=p;return s.m(q).n();}A n(){return new B();}}class B extends A{void k(A A){A.f=f;}}`

// expressions yields the expressions of a method with their scopes.
func expressions(table []api.Entity, class string, n api.Node, yield func(bind.Scope, api.Node)) {
	s := bind.Scope{Table: names.Globals(table), Class: class, Static: n.N == 1}
	method := decls.Method(class, n.Text)
	number := 0
	var visit func(x api.Node)
	visit = func(x api.Node) {
		yield(s, x)
		for _, kid := range x.Kids {
			visit(kid)
		}
		if x.Kind == api.Param || x.Kind == api.Local {
			e, _ := decls.Find(table, decls.Local(method, number))
			s.Seen = append(s.Seen, e)
			number++
		}
	}
	visit(n)
}

// An index says the same as the scopes, whether or not a place is known.
func TestSameAsScopes(t *testing.T) {
	l, m := parse.File(program)
	files := [][]api.Node{l}
	table, _ := decls.Table(files)
	uses, m2 := bind.Uses(files)
	if m.Code != api.OK || m2.Code != api.OK {
		t.Fatal(m, m2)
	}
	twice := append(append([]api.Use{}, uses...), api.Use{At: uses[5].At, Id: "B"}, api.Use{At: uses[9].At, Id: "none"})
	var wrong []api.Use
	for _, u := range uses {
		wrong = append(wrong, api.Use{At: u.At, Id: "none"})
	}
	for i, x := range []names.Index{names.New(table, uses), names.New(table, nil), names.New(table, twice), names.New(table, wrong), {}} {
		for _, class := range l {
			for _, method := range class.Kids {
				if method.Kind != api.Method {
					continue
				}
				expressions(table, class.Text, method, func(s bind.Scope, n api.Node) {
					got, e := x.Entity(s, 0, n)
					want, e2 := s.Entity(n)
					if !reflect.DeepEqual(got, want) || e != e2 || x.Type(s, 0, n) != s.Type(n) {
						t.Errorf("index %d, %v: %v, %d, want %v, %d", i, n, got, e, want, e2)
					}
				})
			}
		}
	}
}

func TestGlobals(t *testing.T) {
	l := []api.Entity{{Kind: api.IsLocal, Id: "a"}, {Kind: api.IsClass, Id: "b"}, {Kind: api.IsLocal}, {Kind: api.IsMethod, Id: "c"}, {Kind: api.IsField, Id: "d"}}
	if got := names.Globals(l); len(got) != 3 || got[0].Id != "b" || got[1].Id != "c" || got[2].Id != "d" {
		t.Errorf("%v", got)
	}
}
