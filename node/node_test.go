package node_test

import (
	"math"
	"math/rand"
	"reflect"
	"slices"
	"testing"

	"concordat/api"
	"concordat/node"
)

// n returns a node of a kind with a text and Kids.
func n(kind int, text string, kids ...api.Node) api.Node {
	return api.Node{Kind: kind, Text: text, Kids: kids}
}

// equal reports whether a and b are the same, positions included.
func equal(a, b api.Node) bool {
	k, l := a.Kids, b.Kids
	a.Kids, b.Kids = nil, nil
	return reflect.DeepEqual(a, b) && slices.EqualFunc(k, l, equal)
}

// random returns a tree of a depth of at most depth.
func random(r *rand.Rand, depth int) api.Node {
	x := api.Node{
		Kind: r.Intn(5), Text: word(r), Type: word(r), N: int64(r.Intn(3)),
		From: r.Intn(9) - 2, To: r.Intn(12) - 2, At: r.Intn(9) - 3, TypeAt: r.Intn(9) - 3,
	}
	if depth > 1 {
		for range r.Intn(4) {
			x.Kids = append(x.Kids, random(r, depth-1))
		}
	}
	return x
}

func word(r *rand.Rand) string { return []string{"", "a", "b", "c"}[r.Intn(4)] }

// deep returns a chain of many nodes.
func deep(many int) api.Node {
	x := api.Node{Kind: api.Int, To: 1}
	for range many - 1 {
		x = api.Node{Kind: api.Not, To: 1, Kids: []api.Node{x}}
	}
	return x
}

// P11.1
func TestSame(t *testing.T) {
	a := api.Node{Kind: 1, Text: "a", Type: "b", N: 2, From: 3, To: 4, At: 5, TypeAt: 6, Kids: []api.Node{n(2, "c"), n(3, "d", n(4, "e"))}}
	same := api.Node{Kind: 1, Text: "a", Type: "b", N: 2, From: 13, To: 14, At: 15, TypeAt: 16, Kids: []api.Node{{Kind: 2, Text: "c", At: 7}, n(3, "d", n(4, "e"))}}
	if !node.Same(a, same) || !node.Same(api.Node{}, api.Node{Kids: []api.Node{}}) {
		t.Error("the same nodes are not the same")
	}
	for i, change := range []func(*api.Node){
		func(x *api.Node) { x.Kind = 9 },
		func(x *api.Node) { x.Text = "x" },
		func(x *api.Node) { x.Type = "" },
		func(x *api.Node) { x.N = -2 },
		func(x *api.Node) { x.Kids = x.Kids[:1] },
		func(x *api.Node) { x.Kids = nil },
		func(x *api.Node) { x.Kids = []api.Node{x.Kids[1], x.Kids[0]} },
		func(x *api.Node) { x.Kids = []api.Node{x.Kids[0], x.Kids[1], {}} },
		func(x *api.Node) { x.Kids = []api.Node{x.Kids[0], n(3, "d", n(4, "f"))} },
		func(x *api.Node) { x.Kids = []api.Node{x.Kids[0], n(3, "d", n(4, "e"), n(4, "e"))} },
		func(x *api.Node) { x.Kids = []api.Node{{Kind: 2, Text: "c", N: 1}, x.Kids[1]} },
	} {
		b := same
		change(&b)
		if node.Same(a, b) || node.Same(b, a) {
			t.Errorf("case %d: the same", i)
		}
	}
}

// P11.1
func TestCountAndDepth(t *testing.T) {
	for _, c := range []struct {
		n            api.Node
		count, depth int
	}{
		{api.Node{}, 1, 1},
		{n(api.Block, "", n(api.Return, "", n(api.Int, ""))), 3, 3},
		{n(0, "", n(0, ""), n(0, "", n(0, "", n(0, "")), n(0, "")), n(0, "")), 7, 4},
		{deep(100000), 100000, 100000},
	} {
		if k := node.Count(c.n); k != c.count {
			t.Errorf("Count = %d, want %d", k, c.count)
		}
		if k := node.Depth(c.n); k != c.depth {
			t.Errorf("Depth = %d, want %d", k, c.depth)
		}
	}
}

// P11.1
func TestAll(t *testing.T) {
	x := n(1, "a", n(2, "b", n(1, "c")), n(1, "d", n(0, "e"), n(2, "f")))
	for kind, want := range map[int]string{0: "abcdef", 1: "acd", 2: "bf", 3: "", -1: ""} {
		got := ""
		for _, k := range node.All(x, kind) {
			got += k.Text
		}
		if got != want {
			t.Errorf("All of the kind %d: %q, want %q", kind, got, want)
		}
	}
	l := node.All(x, 0)
	if !equal(l[0], x) || !equal(l[3], x.Kids[1]) {
		t.Error("a node has not all of its Kids")
	}
	l[0].Kids[0].Kids[0].Text = "changed"
	if x.Kids[0].Kids[0].Text != "c" || l[1].Kids[0].Text != "c" || l[2].Text != "c" {
		t.Error("two nodes share memory")
	}
}

// P11.2
func TestPlainAndShift(t *testing.T) {
	x := api.Node{Kind: 1, Text: "a", Type: "b", N: -7, From: 3, To: 4, At: 5, TypeAt: -1, Kids: []api.Node{{Kind: 2, From: -1, To: -2, At: -3, TypeAt: 0}}}
	plain := api.Node{Kind: 1, Text: "a", Type: "b", N: -7, At: -1, TypeAt: -1, Kids: []api.Node{{Kind: 2, At: -1, TypeAt: -1}}}
	if got := node.Plain(x); !equal(got, plain) {
		t.Errorf("Plain = %v", got)
	}
	shifted := api.Node{Kind: 1, Text: "a", Type: "b", N: -7, From: 13, To: 14, At: 15, TypeAt: -1, Kids: []api.Node{{Kind: 2, From: 9, To: 8, At: -3, TypeAt: 10}}}
	if got := node.Shift(x, 10); !equal(got, shifted) {
		t.Errorf("Shift = %v", got)
	}
	back := api.Node{Kind: 1, Text: "a", Type: "b", N: -7, From: -7, To: -6, At: -5, TypeAt: -1, Kids: []api.Node{{Kind: 2, From: -11, To: -12, At: -3, TypeAt: -10}}}
	if got := node.Shift(x, -10); !equal(got, back) {
		t.Errorf("Shift = %v", got)
	}
	round := api.Node{From: math.MaxInt, To: 1, At: math.MaxInt, TypeAt: 0}
	if got := node.Shift(round, 1); !equal(got, api.Node{From: math.MinInt, To: 2, At: math.MinInt, TypeAt: 1}) {
		t.Errorf("Shift = %v", got)
	}
}

// P11.3
func TestGetAndPut(t *testing.T) {
	x := n(1, "a", n(2, "b", n(3, "c")), n(4, "d"))
	y := n(9, "y", n(8, "z"))
	for _, c := range []struct {
		way  []int
		get  string
		want api.Node
	}{
		{nil, "a", y},
		{[]int{0}, "b", n(1, "a", y, n(4, "d"))},
		{[]int{1}, "d", n(1, "a", n(2, "b", n(3, "c")), y)},
		{[]int{0, 0}, "c", n(1, "a", n(2, "b", y), n(4, "d"))},
	} {
		if got, is := node.Get(x, c.way); !is || got.Text != c.get {
			t.Errorf("Get(%v) = %v, %t", c.way, got, is)
		}
		put, is := node.Put(x, c.way, y)
		if !is || !equal(put, c.want) {
			t.Errorf("Put(%v) = %v, %t", c.way, put, is)
		}
		if got, is := node.Get(put, c.way); !is || !equal(got, y) {
			t.Errorf("Get(%v) after Put = %v, %t", c.way, got, is)
		}
	}
	for _, way := range [][]int{{2}, {-1}, {0, 1}, {0, -1}, {1, 0}, {0, 0, 0}, {2, 0}, {math.MaxInt}, {math.MinInt}} {
		if got, is := node.Get(x, way); is || !equal(got, api.Node{}) {
			t.Errorf("Get(%v) = %v, %t", way, got, is)
		}
		if got, is := node.Put(x, way, y); is || !equal(got, api.Node{}) {
			t.Errorf("Put(%v) = %v, %t", way, got, is)
		}
	}
}

// P11.3
func TestAt(t *testing.T) {
	span := func(from, to int, kids ...api.Node) api.Node { return api.Node{From: from, To: to, Kids: kids} }
	x := span(2, 20, span(2, 5), span(7, 12, span(8, 8), span(8, 9), span(7, 12)), span(9, 15, span(13, 14)), span(30, 40))
	for at, want := range map[int][]int{
		-1: nil, 1: nil, 20: nil, 35: nil, math.MaxInt: nil, math.MinInt: nil,
		2: {0}, 4: {0}, 5: nil, 6: nil, 7: {1, 2}, 8: {1, 1}, 9: {1, 2}, 11: {1, 2}, 12: {2}, 13: {2, 0}, 14: {2}, 15: nil, 19: nil,
	} {
		if got := node.At(x, at); !slices.Equal(got, want) {
			t.Errorf("At(%d) = %v, want %v", at, got, want)
		}
	}
	if got := node.At(deep(1000), 0); len(got) != 999 {
		t.Errorf("a way of %d", len(got))
	}
}

// P11.4
func TestRename(t *testing.T) {
	x := api.Node{Kind: api.Class, Text: "a", Type: "a", Kids: []api.Node{
		{Kind: api.Field, Text: "a", Type: "a"},
		{Kind: api.Name, Text: "a"},
		{Kind: api.New, Text: "a", Kids: []api.Node{{Kind: api.New, Text: "b", Type: "ab"}}},
		{Kind: api.Class, Text: "b", Type: ""},
	}}
	for _, c := range []struct {
		kind     int
		from, to string
		want     api.Node
	}{
		{api.Field, "a", "z", api.Node{Kind: api.Class, Text: "a", Type: "a", Kids: []api.Node{
			{Kind: api.Field, Text: "z", Type: "a"}, {Kind: api.Name, Text: "a"}, {Kind: api.New, Text: "a", Kids: []api.Node{{Kind: api.New, Text: "b", Type: "ab"}}}, {Kind: api.Class, Text: "b"}}}},
		{0, "a", "z", api.Node{Kind: api.Class, Text: "z", Type: "a", Kids: []api.Node{
			{Kind: api.Field, Text: "z", Type: "a"}, {Kind: api.Name, Text: "z"}, {Kind: api.New, Text: "z", Kids: []api.Node{{Kind: api.New, Text: "b", Type: "ab"}}}, {Kind: api.Class, Text: "b"}}}},
		{api.Class, "a", "z", api.Node{Kind: api.Class, Text: "z", Type: "z", Kids: []api.Node{
			{Kind: api.Field, Text: "a", Type: "z"}, {Kind: api.Name, Text: "a"}, {Kind: api.New, Text: "z", Kids: []api.Node{{Kind: api.New, Text: "b", Type: "ab"}}}, {Kind: api.Class, Text: "b"}}}},
		{api.New, "b", "z", api.Node{Kind: api.Class, Text: "a", Type: "a", Kids: []api.Node{
			{Kind: api.Field, Text: "a", Type: "a"}, {Kind: api.Name, Text: "a"}, {Kind: api.New, Text: "a", Kids: []api.Node{{Kind: api.New, Text: "z", Type: "ab"}}}, {Kind: api.Class, Text: "b"}}}},
		{api.Class, "", "z", api.Node{Kind: api.Class, Text: "a", Type: "a", Kids: []api.Node{
			{Kind: api.Field, Text: "a", Type: "a"}, {Kind: api.Name, Text: "a", Type: "z"}, {Kind: api.New, Text: "a", Type: "z", Kids: []api.Node{{Kind: api.New, Text: "b", Type: "ab"}}}, {Kind: api.Class, Text: "b", Type: "z"}}}},
		{api.Method, "a", "z", x},
		{0, "x", "z", x},
	} {
		if got := node.Rename(x, c.kind, c.from, c.to); !equal(got, c.want) {
			t.Errorf("Rename(%d, %q, %q) = %v", c.kind, c.from, c.to, got)
		}
	}
}

// P11.1 to P11.5, and that arguments don't change and results are in new memory.
func TestRandom(t *testing.T) {
	r := rand.New(rand.NewSource(13))
	for range 2000 {
		x := random(r, 4)
		before := node.Shift(x, 0)
		if !equal(before, x) {
			t.Fatal("Shift by nothing changes something")
		}
		all := node.All(x, 0)
		if len(all) != node.Count(x) {
			t.Fatalf("%d nodes are counted as %d", len(all), node.Count(x))
		}
		way := []int{}
		for y := x; len(y.Kids) > 0 && r.Intn(4) > 0; {
			i := r.Intn(len(y.Kids))
			way, y = append(way, i), y.Kids[i]
		}
		y := random(r, 2)
		put, _ := node.Put(x, way, y)
		got, _ := node.Get(put, way)
		if !equal(got, y) {
			t.Fatal("Get returns something else than Put has put")
		}
		kind := r.Intn(4)
		renamed := node.Rename(x, kind, "a", "new")
		if !equal(node.Rename(renamed, kind, "new", "a"), x) {
			t.Fatal("renaming is not undone by renaming back")
		}
		for _, z := range []api.Node{node.Plain(x), node.Shift(x, 5), renamed, put, got, y} {
			spoil(&z)
		}
		for _, z := range all {
			spoil(&z)
		}
		if !equal(x, before) {
			t.Fatal("a result shares memory with an argument")
		}
	}
}

// spoil changes everything that a node holds.
func spoil(x *api.Node) {
	for i := range x.Kids {
		spoil(&x.Kids[i])
	}
	x.Kind, x.Text, x.Type = 99, "spoilt", "spoilt"
	for i := range x.Kids[:cap(x.Kids)] {
		x.Kids[:cap(x.Kids)][i] = api.Node{Kind: 98}
	}
}

// Rule 1: calls return for trees of any depth.
func TestDeep(t *testing.T) {
	x := deep(1000000)
	if !node.Same(x, node.Plain(x)) || node.Depth(node.Rename(x, 0, "", "a")) != 1000000 {
		t.Error("a deep tree")
	}
}
