package kin_test

import (
	"math/rand"
	"reflect"
	"slices"
	"strconv"
	"strings"
	"testing"

	"concordat/api"
	"concordat/decls"
	"concordat/kin"
	"concordat/parse"
)

func class(id, above string) api.Entity {
	return api.Entity{Kind: api.IsClass, Id: id, Name: id, Type: above}
}

func field(owner, name string) api.Entity {
	return api.Entity{Kind: api.IsField, Id: owner + "." + name, Name: name, Owner: owner, Type: "int"}
}

func method(owner, name string, params ...string) api.Entity {
	return api.Entity{Kind: api.IsMethod, Id: owner + "." + name + "()", Name: name, Owner: owner, Type: "int", Params: params}
}

// at returns an entity at a place.
func at(e api.Entity, file, at int) api.Entity {
	e.File, e.At = file, at
	return e
}

// table returns the table of a text.
func table(t *testing.T, text string) []api.Entity {
	t.Helper()
	nodes, m := parse.File(text)
	l, m2 := decls.Table([][]api.Node{nodes})
	if m.Code != api.OK || m2.Code != api.OK {
		t.Fatal(text, m, m2)
	}
	return l
}

// chain is C below B below A, and D below A, in an odd order, with E alone.
func chain() []api.Entity {
	return []api.Entity{class("C", "B"), class("E", ""), class("B", "A"), class("D", "A"), class("A", ""), field("A", "f"), field("B", "g"), method("A", "m"), method("C", "m"), field("E", "g")}
}

// P16.1
func TestAboveAndBelow(t *testing.T) {
	round := []api.Entity{class("A", "B"), class("B", "C"), class("C", "B"), class("S", "S"), class("X", "Y"), class("D", "A"), class("D", "S"), field("Y", "f")}
	for _, c := range []struct {
		l     []api.Entity
		class string
		want  string
	}{
		{chain(), "C", "C B A"},
		{chain(), "B", "B A"},
		{chain(), "A", "A"},
		{chain(), "E", "E"},
		{chain(), "F", ""},
		{chain(), "", ""},
		{chain(), "A.f", ""},
		{nil, "A", ""},
		{round, "A", "A B C"},
		{round, "B", "B C"},
		{round, "C", "C B"},
		{round, "S", "S"},
		{round, "X", "X"},
		{round, "Y", ""},
		{round, "D", "D A B C"},
	} {
		got := kin.Above(c.l, c.class)
		if strings.Join(got, " ") != c.want {
			t.Errorf("Above(%q) = %q, want %q", c.class, got, c.want)
		}
		for _, other := range []string{"A", "B", "C", "D", "E", "S", "X", "Y", "", "A.f", "F"} {
			if kin.Below(c.l, c.class, other) != slices.Contains(got, other) {
				t.Errorf("Below(%q, %q) is wrong", c.class, other)
			}
		}
	}
}

// P16.1
func TestKids(t *testing.T) {
	l := append(chain(), class("B", "A"), class("D", "A"), api.Entity{Kind: api.IsField, Id: "F", Type: "A"}, class("G", "none"), class("H", "none"))
	for class, want := range map[string]string{"A": "B D", "B": "C", "C": "", "E": "", "": "", "none": "G H", "x": ""} {
		if got := kin.Kids(l, class); strings.Join(got, " ") != want {
			t.Errorf("Kids(%q) = %q, want %q", class, got, want)
		}
	}
	if got := kin.Kids(nil, "A"); len(got) != 0 {
		t.Errorf("Kids of nothing = %q", got)
	}
}

// P16.2
func TestFieldAndMethod(t *testing.T) {
	l := append(chain(), at(field("A", "f"), 7, 7), field("C", "m"), method("B", "f"), class("R", "S"), class("S", "R"), field("S", "r"), field("Z", "z"), class("B", "E"))
	for _, c := range []struct {
		class, name   string
		field, method string
	}{
		{"A", "f", "A.f", ""},
		{"C", "f", "A.f", "B.f()"},
		{"C", "g", "B.g", ""},
		{"A", "g", "", ""},
		{"E", "g", "E.g", ""},
		{"C", "m", "C.m", "C.m()"},
		{"B", "m", "", "A.m()"},
		{"D", "m", "", "A.m()"},
		{"E", "m", "", ""},
		{"R", "r", "S.r", ""},
		{"R", "x", "", ""},
		{"Z", "z", "", ""},
		{"", "f", "", ""},
		{"C", "", "", ""},
	} {
		e, is := kin.Field(l, c.class, c.name)
		if is != (c.field != "") || e.Id != c.field || e.File != 0 || !is && !reflect.DeepEqual(e, api.Entity{}) {
			t.Errorf("Field(%q, %q) = %v, %t", c.class, c.name, e, is)
		}
		e, is = kin.Method(l, c.class, c.name)
		if is != (c.method != "") || e.Id != c.method || !is && !reflect.DeepEqual(e, api.Entity{}) {
			t.Errorf("Method(%q, %q) = %v, %t", c.class, c.name, e, is)
		}
	}
	l = []api.Entity{class("A", ""), method("A", "m", "int")}
	e, _ := kin.Method(l, "A", "m")
	e.Params[0] = "changed"
	if l[1].Params[0] != "int" {
		t.Error("the result of Method shares memory with its argument")
	}
}

// P16.3
func TestCheck(t *testing.T) {
	static := func(e api.Entity) api.Entity { e.Static = true; return e }
	typed := func(e api.Entity, s string) api.Entity { e.Type = s; return e }
	bad := func(e api.Entity) api.Entity { return at(e, 3, 5) }
	for i, c := range []struct {
		l    []api.Entity
		want api.Errno
	}{
		{nil, api.OK},
		{chain(), api.OK},
		{[]api.Entity{bad(class("A", "B"))}, api.ErrSuper},
		{[]api.Entity{field("B", "f"), bad(class("A", "B"))}, api.ErrSuper},
		{[]api.Entity{bad(class("A", "A"))}, api.ErrSuper},
		{[]api.Entity{bad(class("A", "B")), class("B", "A")}, api.ErrSuper},
		{[]api.Entity{class("A", ""), bad(class("B", "C")), class("C", "D"), class("D", "B")}, api.ErrSuper},
		// A class above a cycle is in none itself.
		{[]api.Entity{class("X", "A"), bad(class("A", "B")), class("B", "A")}, api.ErrSuper},
		// A second class with an id has mistakes, too.
		{[]api.Entity{class("A", ""), bad(class("A", "X"))}, api.ErrSuper},
		{[]api.Entity{class("A", ""), class("B", "A"), bad(class("A", "B"))}, api.ErrSuper},
		{[]api.Entity{class("A", ""), class("B", ""), class("A", "B")}, api.OK},
		{[]api.Entity{class("A", ""), class("B", "A"), field("A", "f"), bad(field("B", "f"))}, api.ErrHide},
		{[]api.Entity{class("A", ""), class("B", "A"), class("C", "B"), bad(static(field("C", "f"))), field("A", "f")}, api.ErrHide},
		{[]api.Entity{class("A", ""), class("B", "A"), class("C", "A"), field("B", "f"), field("C", "f")}, api.OK},
		{[]api.Entity{class("A", ""), class("B", "A"), method("A", "f"), field("B", "f"), method("B", "g"), field("A", "g")}, api.OK},
		{[]api.Entity{class("A", ""), field("A", "f"), field("A", "f")}, api.OK},
		{[]api.Entity{class("A", ""), class("B", "A"), method("A", "m", "int", "A"), method("B", "m", "int", "A")}, api.OK},
		{[]api.Entity{class("A", ""), class("B", "A"), static(method("A", "m")), static(method("B", "m"))}, api.OK},
		{[]api.Entity{class("A", ""), class("B", "A"), method("A", "m"), bad(static(method("B", "m")))}, api.ErrOver},
		{[]api.Entity{class("A", ""), class("B", "A"), static(method("A", "m")), bad(method("B", "m"))}, api.ErrOver},
		{[]api.Entity{class("A", ""), class("B", "A"), method("A", "m"), bad(typed(method("B", "m"), "A"))}, api.ErrOver},
		{[]api.Entity{class("A", ""), class("B", "A"), method("A", "m", "int"), bad(method("B", "m", "A"))}, api.ErrOver},
		{[]api.Entity{class("A", ""), class("B", "A"), method("A", "m", "int"), bad(method("B", "m"))}, api.ErrOver},
		{[]api.Entity{class("A", ""), class("B", "A"), method("A", "m"), bad(method("B", "m", "int"))}, api.ErrOver},
		{[]api.Entity{class("A", ""), class("B", "A"), class("C", "B"), method("A", "m"), bad(typed(method("C", "m"), "A"))}, api.ErrOver},
		{[]api.Entity{field("X", "f"), typed(method("X", "m"), "A"), {Kind: api.IsLocal, Id: "A", Name: "f", Owner: "B", Type: "zz"}, {Kind: 9, Type: "zz"}}, api.OK},
		{[]api.Entity{class("A", ""), class("B", "A"), field("A", "f"), {Kind: api.IsLocal, Id: "x", Name: "f", Owner: "B", Type: "zz"}}, api.OK},
		// The first entity with a mistake counts, in the order of the list.
		{[]api.Entity{class("A", ""), class("B", "A"), method("A", "m"), field("A", "f"), bad(method("B", "m", "int")), field("B", "f"), class("C", "D")}, api.ErrOver},
		{[]api.Entity{class("A", ""), class("B", "A"), method("A", "m"), field("A", "f"), bad(field("B", "f")), method("B", "m", "int"), class("C", "D")}, api.ErrHide},
		{[]api.Entity{class("A", ""), class("B", "A"), bad(class("C", "D")), method("A", "m"), field("A", "f"), field("B", "f")}, api.ErrSuper},
	} {
		want := api.Mistake{}
		if c.want != api.OK {
			want = api.Mistake{Code: c.want, File: 3, At: 5}
		}
		if got := kin.Check(c.l); got != want {
			t.Errorf("case %d: %v, want %v", i, got, want)
		}
	}
	text := "class A{int m(A a){return 1;}}class B extends A{int m(A b){return 1;}int f;}class C extends B{boolean f;}"
	if got := kin.Check(table(t, text)); got != (api.Mistake{Code: api.ErrHide, At: strings.Index(text, "boolean f") + 8}) {
		t.Errorf("%v", got)
	}
}

// P16.4
func TestOrder(t *testing.T) {
	for _, c := range []struct {
		l    []api.Entity
		want string
	}{
		{nil, ""},
		{[]api.Entity{field("A", "f"), method("A", "m")}, ""},
		{[]api.Entity{class("C", "B"), class("B", "A"), class("A", "")}, "A B C"},
		{chain(), "E A B D C"},
		{[]api.Entity{class("C", "A"), class("D", "B"), class("B", ""), class("A", ""), class("E", "D"), class("F", "C")}, "B A C D E F"},
		{[]api.Entity{class("X", "none"), class("Y", "X")}, "X Y"},
		{[]api.Entity{class("A", "B"), class("B", "A"), class("C", ""), class("D", "A"), class("S", "S")}, "C A B D S"},
		{[]api.Entity{class("A", ""), class("A", ""), class("B", "A"), class("B", "A")}, "A B"},
	} {
		if got := kin.Order(c.l); strings.Join(got, " ") != c.want {
			t.Errorf("Order = %q, want %q", got, c.want)
		}
	}
}

// order is what P16.4 says, pass by pass.
func order(l []api.Entity) []string {
	var out []string
	superclass := map[string]string{}
	for _, e := range l {
		superclass[e.Id] = ""
	}
	for _, e := range l {
		if _, is := superclass[e.Type]; is {
			superclass[e.Id] = e.Type
		}
	}
	for grown := -1; grown < len(out); {
		grown = len(out)
		for _, e := range l {
			if up := superclass[e.Id]; !slices.Contains(out, e.Id) && (up == "" || slices.Contains(out[:grown], up)) {
				out = append(out, e.Id)
			}
		}
	}
	for _, e := range l {
		if !slices.Contains(out, e.Id) {
			out = append(out, e.Id)
		}
	}
	return out
}

// P16.1, P16.3, P16.4, P16.5, for random classes.
func TestRandom(t *testing.T) {
	r := rand.New(rand.NewSource(17))
	for range 3000 {
		var l []api.Entity
		for _, i := range r.Perm(7) {
			up := ""
			if k := r.Intn(9); k < 7 && (k < i || r.Intn(9) == 0) {
				up = strconv.Itoa(k)
			}
			l = append(l, class(strconv.Itoa(i), up))
		}
		if got := kin.Order(l); !slices.Equal(got, order(l)) {
			t.Fatalf("Order of %v = %q, want %q", l, got, order(l))
		}
		cycle := false
		for _, e := range l {
			above := kin.Above(l, e.Id)
			last := l[slices.IndexFunc(l, func(x api.Entity) bool { return x.Id == above[len(above)-1] })]
			cycle = cycle || last.Type != ""
			for i, up := range above {
				if !kin.Below(l, e.Id, up) || slices.Contains(above[:i], up) {
					t.Fatalf("Above(%q) of %v = %q", e.Id, l, above)
				}
				if i > 0 && !slices.Contains(kin.Kids(l, up), above[i-1]) {
					t.Fatalf("Kids(%q) of %v = %q", up, l, kin.Kids(l, up))
				}
			}
		}
		if m := kin.Check(l); cycle != (m.Code == api.ErrSuper) {
			t.Fatalf("Check of %v = %v", l, m)
		}
	}
}

// Long chains of classes.
func TestLong(t *testing.T) {
	var l []api.Entity
	for i := range 2000 {
		l = append(l, class("c"+strconv.Itoa(i), "c"+strconv.Itoa(i+1)), field("c"+strconv.Itoa(i), "f"+strconv.Itoa(i)))
	}
	l = append(l, class("c2000", ""))
	if m := kin.Check(l); m != (api.Mistake{}) || len(kin.Above(l, "c0")) != 2001 || kin.Order(l)[2000] != "c0" {
		t.Errorf("%v", m)
	}
}
