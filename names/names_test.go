package names_test

import (
	"reflect"
	"strings"
	"testing"

	"concordat/api"
	"concordat/bind"
	"concordat/decls"
	"concordat/names"
	"concordat/parse"
)

const program = `class A{int f;static A s;A m(int p){int q=p;{int q1=q;q=q1;}return s.m(q).n();}A n(){return new B();}static void o(A a){o(s);}}class B extends A{void k(A A){A.f=f;}}`

// parsed returns the program, its table and its uses.
func parsed(t *testing.T) ([][]api.Node, []api.Entity, []api.Use) {
	t.Helper()
	l, m := parse.File(program)
	files := [][]api.Node{l}
	table, _ := decls.Table(files)
	uses, m2 := bind.Uses(files)
	if m.Code != api.OK || m2.Code != api.OK {
		t.Fatal(m, m2)
	}
	return files, table, uses
}

// An index says the same as the scopes, whether or not a place is known.
func TestSameAsScopes(t *testing.T) {
	files, table, uses := parsed(t)
	twice := append(append([]api.Use{}, uses...), api.Use{At: uses[5].At, Id: "B"}, api.Use{At: uses[9].At, Id: "none"})
	var wrong []api.Use
	for _, u := range uses {
		wrong = append(wrong, api.Use{At: u.At, Id: "none"})
	}
	for i, x := range []names.Index{names.New(table, uses), names.New(table, nil), names.New(table, twice), names.New(table, wrong), {}} {
		for s, p := range names.Spots(table, files) {
			got, e := x.Entity(s, 0, p.Node)
			want, e2 := s.Entity(p.Node)
			if !reflect.DeepEqual(got, want) || e != e2 || x.Type(s, 0, p.Node) != s.Type(p.Node) {
				t.Errorf("index %d, %v: %v, %d, want %v, %d", i, p.Node, got, e, want, e2)
			}
		}
	}
}

// Every name of a program refers in the scope of its spot to what bind.Uses
// says, and every node has a spot, in order.
func TestSpots(t *testing.T) {
	files, table, uses := parsed(t)
	at, known := 0, 0
	for s, p := range names.Spots(table, files) {
		if p.Node.From < at || p.File != 0 {
			t.Errorf("%v comes too late", p.Node)
		}
		at = p.Node.From
		if k := strings.Index(p.Member, "."); p.Node.Kind == api.Class != (k < 0) || k >= 0 && p.Member[:k] != s.Class {
			t.Errorf("%v is in %q", p.Node, p.Member)
		}
		e, errno := s.Entity(p.Node)
		if e.Id == "" {
			continue
		}
		if id, is := bind.At(uses, 0, p.Node.At); !is || id != e.Id || errno != api.OK {
			t.Errorf("%v: %q, %d, want %q", p.Node, e.Id, errno, id)
		}
		known++
	}
	if known != strings.Count("p q q q1 s m q n B o s A f f", " ")+1 {
		t.Errorf("%d names", known)
	}
	for range names.Spots(table, files) {
		break
	}
	many := 0
	for range names.Spots(table, files) {
		if many++; many == 7 {
			break
		}
	}
}

func TestGlobals(t *testing.T) {
	l := []api.Entity{{Kind: api.IsLocal, Id: "a"}, {Kind: api.IsClass, Id: "b"}, {Kind: api.IsLocal}, {Kind: api.IsMethod, Id: "c"}, {Kind: api.IsField, Id: "d"}}
	if got := names.Globals(l); len(got) != 3 || got[0].Id != "b" || got[1].Id != "c" || got[2].Id != "d" {
		t.Errorf("%v", got)
	}
}
