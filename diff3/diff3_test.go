package diff3_test

import (
	"fmt"
	"math/rand"
	"slices"
	"strings"
	"testing"

	"concordat/api"
	"concordat/diff3"
	"concordat/lcs"
)

func chunk(kind, o1, o2, a1, a2, b1, b2 int) api.Chunk {
	return api.Chunk{Kind: kind, O: api.Span{From: o1, To: o2}, A: api.Span{From: a1, To: a2}, B: api.Span{From: b1, To: b2}}
}

type lists struct{ o, a, b []int }

var cases = []struct {
	l      lists
	chunks []api.Chunk
	merged []int
	clean  bool
}{
	{lists{nil, nil, nil}, nil, nil, true},
	{lists{[]int{1, 2, 3}, []int{1, 4, 3}, []int{1, 2, 3, 5}},
		[]api.Chunk{chunk(api.Same, 0, 1, 0, 1, 0, 1), chunk(api.Left, 1, 2, 1, 2, 1, 2), chunk(api.Same, 2, 3, 2, 3, 2, 3), chunk(api.Right, 3, 3, 3, 3, 3, 4)},
		[]int{1, 4, 3, 5}, true},
	{lists{[]int{1, 2, 3}, []int{1, 2, 3}, []int{1, 2, 3}}, []api.Chunk{chunk(api.Same, 0, 3, 0, 3, 0, 3)}, []int{1, 2, 3}, true},
	{lists{[]int{1, 2, 3}, []int{1, 9, 3}, []int{1, 9, 3}},
		[]api.Chunk{chunk(api.Same, 0, 1, 0, 1, 0, 1), chunk(api.Both, 1, 2, 1, 2, 1, 2), chunk(api.Same, 2, 3, 2, 3, 2, 3)},
		[]int{1, 9, 3}, true},
	{lists{[]int{1, 2, 3}, []int{1, 8, 3}, []int{1, 9, 3}},
		[]api.Chunk{chunk(api.Same, 0, 1, 0, 1, 0, 1), chunk(api.Clash, 1, 2, 1, 2, 1, 2), chunk(api.Same, 2, 3, 2, 3, 2, 3)},
		nil, false},
	{lists{nil, []int{1}, nil}, []api.Chunk{chunk(api.Left, 0, 0, 0, 1, 0, 0)}, []int{1}, true},
	{lists{nil, nil, []int{1}}, []api.Chunk{chunk(api.Right, 0, 0, 0, 0, 0, 1)}, []int{1}, true},
	{lists{nil, []int{1}, []int{1}}, []api.Chunk{chunk(api.Both, 0, 0, 0, 1, 0, 1)}, []int{1}, true},
	{lists{nil, []int{1}, []int{2}}, []api.Chunk{chunk(api.Clash, 0, 0, 0, 1, 0, 1)}, nil, false},
	{lists{[]int{1}, nil, nil}, []api.Chunk{chunk(api.Both, 0, 1, 0, 0, 0, 0)}, nil, true},
	{lists{[]int{1}, nil, []int{1}}, []api.Chunk{chunk(api.Left, 0, 1, 0, 0, 0, 1)}, nil, true},
	{lists{[]int{1}, []int{1}, nil}, []api.Chunk{chunk(api.Right, 0, 1, 0, 1, 0, 0)}, nil, true},
	{lists{[]int{1}, nil, []int{2}}, []api.Chunk{chunk(api.Clash, 0, 1, 0, 0, 0, 1)}, nil, false},
	// Of two longest common subsequences, 1, 4, 5, 6 is the one that counts.
	{lists{[]int{1, 2, 3, 4, 5, 6}, []int{1, 4, 5, 2, 3, 6}, []int{1, 2, 4, 5, 3, 6}},
		[]api.Chunk{chunk(api.Same, 0, 1, 0, 1, 0, 1), chunk(api.Clash, 1, 3, 1, 1, 1, 2), chunk(api.Same, 3, 5, 1, 3, 2, 4), chunk(api.Clash, 5, 5, 3, 5, 4, 5), chunk(api.Same, 5, 6, 5, 6, 5, 6)},
		nil, false},
	// Adjacent changes of both sides are in one chunk, those with something stable between them are not.
	{lists{[]int{1, 2}, []int{8, 2}, []int{1, 9}}, []api.Chunk{chunk(api.Clash, 0, 2, 0, 2, 0, 2)}, nil, false},
	{lists{[]int{1, 2, 3}, []int{8, 2, 3}, []int{1, 2, 9}},
		[]api.Chunk{chunk(api.Left, 0, 1, 0, 1, 0, 1), chunk(api.Same, 1, 2, 1, 2, 1, 2), chunk(api.Right, 2, 3, 2, 3, 2, 3)},
		[]int{8, 2, 9}, true},
	{lists{[]int{1, 2}, []int{7, 1, 2}, []int{1, 8, 2, 9}},
		[]api.Chunk{chunk(api.Left, 0, 0, 0, 1, 0, 0), chunk(api.Same, 0, 1, 1, 2, 0, 1), chunk(api.Right, 1, 1, 2, 2, 1, 2), chunk(api.Same, 1, 2, 2, 3, 2, 3), chunk(api.Right, 2, 2, 3, 3, 3, 4)},
		[]int{7, 1, 8, 2, 9}, true},
}

// texts returns numbers as strings.
func texts(l []int) []string {
	var out []string
	for _, n := range l {
		out = append(out, fmt.Sprint(n))
	}
	return out
}

// P7.1, P7.2
func TestCases(t *testing.T) {
	for _, c := range cases {
		before := fmt.Sprint(c.l)
		if got := diff3.Chunks(c.l.o, c.l.a, c.l.b); !slices.Equal(got, c.chunks) {
			t.Errorf("Chunks(%v) = %v, want %v", c.l, got, c.chunks)
		}
		if got := diff3.Parts(texts(c.l.o), texts(c.l.a), texts(c.l.b)); !slices.Equal(got, c.chunks) {
			t.Errorf("Parts(%v) = %v, want %v", c.l, got, c.chunks)
		}
		if got := diff3.Clean(c.chunks); got != c.clean {
			t.Errorf("Clean(%v) = %t", c.chunks, got)
		}
		if got, is := diff3.Merge(c.l.o, c.l.a, c.l.b); !slices.Equal(got, c.merged) || is != c.clean {
			t.Errorf("Merge(%v) = %v, %t, want %v", c.l, got, is, c.merged)
		}
		if got, is := diff3.Texts(texts(c.l.o), texts(c.l.a), texts(c.l.b)); !slices.Equal(got, texts(c.merged)) || is != c.clean {
			t.Errorf("Texts(%v) = %v, %t, want %v", c.l, got, is, c.merged)
		}
		if fmt.Sprint(c.l) != before {
			t.Errorf("an argument of %s was changed", before)
		}
	}
}

// P7.2
func TestClean(t *testing.T) {
	for _, c := range []struct {
		kinds []int
		want  bool
	}{
		{nil, true}, {[]int{api.Same, api.Left, api.Right, api.Both}, true}, {[]int{api.Clash}, false}, {[]int{api.Same, api.Clash, api.Same}, false}, {[]int{-1, 5, 99}, true},
	} {
		var l []api.Chunk
		for _, k := range c.kinds {
			l = append(l, api.Chunk{Kind: k})
		}
		if got := diff3.Clean(l); got != c.want {
			t.Errorf("Clean of the kinds %v = %t", c.kinds, got)
		}
	}
}

// kind is the kind of a chunk by its definition.
func kind(x, y, z string) int {
	switch {
	case y == x && z == x:
		return api.Same
	case y == x:
		return api.Right
	case z == x:
		return api.Left
	case y == z:
		return api.Both
	}
	return api.Clash
}

// chunks are the chunks of three lists as the document defines them.
func chunks(o, a, b []int) []api.Chunk {
	ma, mb := lcs.Match(o, a), lcs.Match(o, b)
	var out []api.Chunk
	p, q, s := 0, 0, 0
	for p < len(o) || q < len(a) || s < len(b) {
		n := 0
		for p+n < len(o) && ma[p+n] == q+n && mb[p+n] == s+n {
			n++
		}
		p2, q2, s2 := p+n, q+n, s+n
		if n == 0 {
			p2, q2, s2 = len(o), len(a), len(b)
			for i := len(o) - 1; i >= p; i-- {
				if ma[i] >= 0 && mb[i] >= 0 {
					p2, q2, s2 = i, ma[i], mb[i]
				}
			}
		}
		out = append(out, chunk(kind(fmt.Sprint(o[p:p2]), fmt.Sprint(a[q:q2]), fmt.Sprint(b[s:s2])), p, p2, q, q2, s, s2))
		p, q, s = p2, q2, s2
	}
	return out
}

// row returns a list of up to 8 small numbers.
func row(r *rand.Rand) []int {
	l := make([]int, r.Intn(9))
	for i := range l {
		l[i] = r.Intn(4)
	}
	return l
}

// changed returns l with some elements changed, left out, or added.
func changed(r *rand.Rand, l []int) []int {
	var out []int
	for _, x := range l {
		switch r.Intn(6) {
		case 0:
		case 1:
			out = append(out, x, r.Intn(9))
		case 2:
			out = append(out, r.Intn(9))
		default:
			out = append(out, x)
		}
	}
	return out
}

// P7.1, P7.2, P7.3
func TestRandom(t *testing.T) {
	r := rand.New(rand.NewSource(8))
	for i := range 4000 {
		o := row(r)
		a, b := changed(r, o), changed(r, o)
		if i%4 == 0 {
			a, b = row(r), row(r)
		}
		l := diff3.Chunks(o, a, b)
		if want := chunks(o, a, b); !slices.Equal(l, want) {
			t.Fatalf("Chunks(%v, %v, %v) = %v, want %v", o, a, b, l, want)
		}
		var merged []int
		var end api.Chunk
		for _, c := range l {
			if c.O.From != end.O.To || c.A.From != end.A.To || c.B.From != end.B.To {
				t.Fatalf("Chunks(%v, %v, %v) = %v has a gap", o, a, b, l)
			}
			end = c
			if c.Kind == api.Right {
				merged = append(merged, b[c.B.From:c.B.To]...)
			} else {
				merged = append(merged, a[c.A.From:c.A.To]...)
			}
		}
		if end.O.To != len(o) || end.A.To != len(a) || end.B.To != len(b) {
			t.Fatalf("Chunks(%v, %v, %v) = %v ends too early", o, a, b, l)
		}
		clean := !slices.ContainsFunc(l, func(c api.Chunk) bool { return c.Kind == api.Clash })
		if !clean {
			merged = nil
		}
		if got, is := diff3.Merge(o, a, b); is != clean || !slices.Equal(got, merged) {
			t.Fatalf("Merge(%v, %v, %v) = %v, %t", o, a, b, got, is)
		}
		if got, is := diff3.Texts(texts(o), texts(a), texts(b)); is != clean || !slices.Equal(got, texts(merged)) {
			t.Fatalf("Texts(%v, %v, %v) = %v, %t", o, a, b, got, is)
		}
		unchanged(t, o, a)
		exchanged(t, o, a, b)
	}
}

// unchanged checks what comes of sides that are equal to the base or to each other.
func unchanged(t *testing.T, o, a []int) {
	for _, l := range []lists{{o, o, a}, {o, a, o}, {o, a, a}} {
		if got, is := diff3.Merge(l.o, l.a, l.b); !is || !slices.Equal(got, a) {
			t.Fatalf("Merge(%v) = %v, %t", l, got, is)
		}
	}
}

// exchanged checks what comes of exchanged sides.
func exchanged(t *testing.T, o, a, b []int) {
	l, m := diff3.Chunks(o, a, b), diff3.Chunks(o, b, a)
	for i, c := range l {
		c.A, c.B = c.B, c.A
		if c.Kind == api.Left || c.Kind == api.Right {
			c.Kind = api.Left + api.Right - c.Kind
		}
		if len(m) != len(l) || m[i] != c {
			t.Fatalf("Chunks of %v, %v, %v: %v, and exchanged %v", o, a, b, l, m)
		}
	}
}

// P7.1: lists that are too long for a longest common subsequence.
func TestTooLong(t *testing.T) {
	n := api.MaxRow + 1
	o := make([]int, n)
	for i := range o {
		o[i] = i
	}
	a := slices.Clone(o)
	a[3], a[n-4] = -1, -2
	b := append(slices.Clone(o), -3)
	want := []api.Chunk{chunk(api.Same, 0, 3, 0, 3, 0, 3), chunk(api.Left, 3, n-3, 3, n-3, 3, n-3), chunk(api.Same, n-3, n, n-3, n, n-3, n), chunk(api.Right, n, n, n, n, n, n+1)}
	if got := diff3.Chunks(o, a, b); !slices.Equal(got, want) {
		t.Errorf("Chunks = %v, want %v", got, want)
	}
}

// Rule 4: results are in new memory.
func TestNewMemory(t *testing.T) {
	o, a, b := []int{1, 2}, append(make([]int, 0, 9), 1, 2), append(make([]int, 0, 9), 1, 2, 3)
	got, _ := diff3.Merge(o, a, b)
	got[0] = 77
	if !slices.Equal(got[1:], []int{2, 3}) || a[0] != 1 || b[0] != 1 || o[0] != 1 || a[:3][2] != 0 {
		t.Errorf("%v %v %v %v", got, o, a[:3], b)
	}
	words, _ := diff3.Texts([]string{"x"}, []string{"x"}, []string{"x"})
	if strings.Join(words, "") != "x" {
		t.Errorf("%q", words)
	}
}
