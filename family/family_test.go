package family_test

import (
	"fmt"
	"math/rand"
	"slices"
	"strings"
	"testing"

	"concordat/api"
	"concordat/check"
	"concordat/family"
	"concordat/kin"
)

func class(id, above string) api.Entity {
	return api.Entity{Kind: api.IsClass, Id: id, Name: id, Type: above}
}

func method(owner, name string) api.Entity {
	return api.Entity{Kind: api.IsMethod, Id: owner + "." + name + "()", Name: name, Owner: owner}
}

func field(owner, name string) api.Entity {
	return api.Entity{Kind: api.IsField, Id: owner + "." + name, Name: name, Owner: owner}
}

func local(owner, n string) api.Entity {
	return api.Entity{Kind: api.IsLocal, Id: owner + "#" + n, Name: "x", Owner: owner}
}

// table has B and C below A, D below B, and E alone, all with methods m.
func table() []api.Entity {
	return []api.Entity{
		class("D", "B"), method("D", "m"), method("D", "k"), local("D.m()", "0"),
		class("A", ""), field("A", "m"), method("A", "m"),
		class("B", "A"), method("B", "m"), method("B", "n"),
		class("C", "A"), method("C", "m"), method("C", "k"),
		class("E", ""), method("E", "m"), method("E", "n"),
	}
}

// P24.1
func TestOf(t *testing.T) {
	for id, want := range map[string]string{
		"A.m()": "A.m() B.m() C.m() D.m()", "B.m()": "A.m() B.m() C.m() D.m()", "C.m()": "A.m() B.m() C.m() D.m()", "D.m()": "A.m() B.m() C.m() D.m()",
		"B.n()": "B.n()", "E.n()": "E.n()", "E.m()": "E.m()", "D.k()": "D.k()", "C.k()": "C.k()",
		"A": "A", "A.m": "A.m", "D.m()#0": "D.m()#0", "": "", "x": "", "A.k()": "", "A.m()#0": "",
	} {
		if got := family.Of(table(), id); strings.Join(got, " ") != want {
			t.Errorf("Of(%q) = %q, want %q", id, got, want)
		}
	}
	// Siblings are in one family by a class below both, or above both, wherever it is.
	l := []api.Entity{method("B", "m"), method("C", "m"), class("C", "B"), class("B", "A"), class("A", "")}
	if got := family.Of(l, "C.m()"); strings.Join(got, " ") != "B.m() C.m()" {
		t.Errorf("%q", got)
	}
	// A class between two that have the method need not have it.
	l = []api.Entity{class("A", ""), class("B", "A"), class("C", "B"), method("A", "m"), method("C", "m")}
	if got := family.Of(l, "A.m()"); strings.Join(got, " ") != "A.m() C.m()" {
		t.Errorf("%q", got)
	}
	// Entities with one id are in one family, whatever their names are, as far as they are methods.
	renamed := method("B", "m")
	renamed.Name = "k"
	l = []api.Entity{class("A", ""), class("B", "A"), method("A", "m"), method("B", "m"), renamed, method("A", "k"), {Kind: api.IsField, Id: "A.k()", Name: "z", Owner: "A"}, method("B", "z")}
	if got := family.Of(l, "A.m()"); strings.Join(got, " ") != "A.k() A.m() B.m()" {
		t.Errorf("%q", got)
	}
	// The first entity with the id decides.
	l = []api.Entity{{Kind: api.IsField, Id: "A.m()"}, class("A", ""), class("B", "A"), method("A", "m"), method("B", "m")}
	if got := family.Of(l, "A.m()"); strings.Join(got, " ") != "A.m()" {
		t.Errorf("%q", got)
	}
	// Owners that are no classes are below nothing, not even themselves.
	l = []api.Entity{method("X", "m"), {Kind: api.IsMethod, Id: "other", Name: "m", Owner: "X"}}
	if got := family.Of(l, "X.m()"); strings.Join(got, " ") != "X.m()" {
		t.Errorf("%q", got)
	}
	l = append(l, class("X", ""))
	if got := family.Of(l, "X.m()"); strings.Join(got, " ") != "X.m() other" {
		t.Errorf("%q", got)
	}
}

// P24.1
func TestAll(t *testing.T) {
	for _, c := range []struct {
		l    []api.Entity
		want string
	}{
		{nil, "[]"},
		{table(), "[[A.m() B.m() C.m() D.m()]]"},
		{append(table(), method("A", "n"), class("F", "E"), method("F", "n"), method("F", "z")), "[[A.m() B.m() C.m() D.m()] [A.n() B.n()] [E.n() F.n()]]"},
		{append([]api.Entity{class("F", "E"), method("F", "n")}, table()...), "[[E.n() F.n()] [A.m() B.m() C.m() D.m()]]"},
		{[]api.Entity{class("A", ""), method("A", "m"), method("A", "m"), field("A", "f"), field("A", "f")}, "[]"},
	} {
		if got := fmt.Sprint(family.All(c.l)); got != c.want {
			t.Errorf("All = %s, want %s", got, c.want)
		}
	}
}

// P24.2
func TestCalled(t *testing.T) {
	for _, c := range []struct {
		e    api.Entity
		want string
	}{
		{class("A", "B"), "z"}, {field("A", "f"), "A.z"}, {method("A", "m"), "A.z()"}, {local("A.m()", "3"), "A.m()#3"},
		{api.Entity{Kind: api.IsField, Id: "odd", Owner: ""}, ".z"},
	} {
		if got := family.Called(c.e, "z"); got != c.want {
			t.Errorf("Called(%v) = %q, want %q", c.e, got, c.want)
		}
	}
	if got := family.Called(class("A", ""), ""); got != "" {
		t.Errorf("%q", got)
	}
}

// P24.3
func TestSwap(t *testing.T) {
	ids := []string{"A.m()", "B.m()", "none", "D.m()"}
	for id, want := range map[string]string{
		"A.m()": "A.z()", "B.m()": "B.z()", "D.m()#0": "D.z()#0", "D.m()": "D.z()", "C.m()": "C.m()", "none": "none", "A.m": "A.m", "A": "A", "": "",
	} {
		if got := family.Swap(table(), ids, "z", id); got != want {
			t.Errorf("Swap(%q) = %q, want %q", id, got, want)
		}
	}
	for _, c := range []struct {
		ids            []string
		name, id, want string
	}{
		{nil, "z", "A", "A"},
		{[]string{"A"}, "Z", "A.m()#1", "Z.m()#1"},
		{[]string{"A"}, "Z", "AB", "AB"},
		{[]string{"A.m"}, "f", "A.m", "A.f"},
		{[]string{"A.m"}, "f", "A.m()", "A.m()"},
		{[]string{"D.m()#0"}, "y", "D.m()#0", "D.m()#0"},
		// The first result that is another one counts.
		{[]string{"A", "A.m()"}, "Z", "A.m()", "Z.m()"},
		{[]string{"A.m()", "A"}, "Z", "A.m()", "A.Z()"},
		{[]string{"A.m()", "A"}, "m", "A.m()", "m.m()"},
	} {
		if got := family.Swap(table(), c.ids, c.name, c.id); got != c.want {
			t.Errorf("Swap(%q, %q, %q) = %q, want %q", c.ids, c.name, c.id, got, c.want)
		}
	}
}

// P24.1, P24.4, for random classes.
func TestRandom(t *testing.T) {
	r := rand.New(rand.NewSource(20))
	for range 500 {
		var l []api.Entity
		for _, i := range r.Perm(8) {
			id := string(rune('A' + i))
			up := ""
			if k := r.Intn(12); k < i || k < 8 && r.Intn(10) == 0 {
				up = string(rune('A' + k))
			}
			l = append(l, class(id, up))
			for _, name := range []string{"m", "n"} {
				if r.Intn(2) == 0 {
					l = append(l, method(id, name))
				}
			}
		}
		of := map[string]string{}
		for _, e := range l {
			ids := family.Of(l, e.Id)
			if !slices.Contains(ids, e.Id) || !slices.IsSorted(ids) {
				t.Fatalf("Of(%q) of %v = %q", e.Id, l, ids)
			}
			of[e.Id] = strings.Join(ids, " ")
			for _, other := range l {
				related := e.Kind == api.IsMethod && other.Kind == api.IsMethod && e.Name == other.Name && (kin.Below(l, e.Owner, other.Owner) || kin.Below(l, other.Owner, e.Owner))
				if related && !slices.Contains(ids, other.Id) || slices.Contains(ids, other.Id) && (e.Kind == api.IsMethod && other.Name != e.Name || e.Kind != api.IsMethod && other.Id != e.Id) {
					t.Fatalf("Of(%q) of %v = %q", e.Id, l, ids)
				}
			}
		}
		// Every family hangs together: without one half of it, something is related to the other half.
		for id, ids := range of {
			for _, other := range strings.Fields(ids) {
				if of[other] != ids {
					t.Fatalf("%v: the families of %q and %q", l, id, other)
				}
			}
			reached, all := []string{id}, strings.Fields(ids)
			for i := 0; i < len(reached); i++ {
				for _, next := range all {
					a, b := strings.Split(reached[i], ".")[0], strings.Split(next, ".")[0]
					if !slices.Contains(reached, next) && (kin.Below(l, a, b) || kin.Below(l, b, a)) {
						reached = append(reached, next)
					}
				}
			}
			if len(reached) != len(all) {
				t.Fatalf("%v: the family of %q is %q, but only %q are related", l, id, all, reached)
			}
		}
		var want [][]string
		for _, e := range l {
			ids := strings.Fields(of[e.Id])
			if len(ids) > 1 && e.Kind == api.IsMethod && !slices.ContainsFunc(want, func(f []string) bool { return slices.Contains(f, e.Id) }) {
				want = append(want, ids)
			}
		}
		if got := family.All(l); fmt.Sprint(got) != fmt.Sprint(want) {
			t.Fatalf("All of %v = %q, want %q", l, got, want)
		}
	}
}

// P24.4: in a program the members of a family agree.
func TestProgram(t *testing.T) {
	text := "class A{int m(A a){return 1;}}class B extends A{int m(A b){return 2;}}class C extends A{int m(A c){return 3;}static void n(){}}"
	l, m := check.Table([]api.File{{Path: "a", Text: text}})
	if m.Code != api.OK {
		t.Fatal(m)
	}
	if got := fmt.Sprint(family.All(l)); got != "[[A.m() B.m() C.m()]]" {
		t.Errorf("%s", got)
	}
}

// Large families.
func TestLarge(t *testing.T) {
	var l []api.Entity
	for i := range 500 {
		id := fmt.Sprintf("c%03d", i)
		l = append(l, class(id, fmt.Sprintf("c%03d", i/2)), method(id, "m"))
	}
	l[0].Type = ""
	if got := family.Of(l, "c250.m()"); len(got) != 500 {
		t.Errorf("%d members", len(got))
	}
}
