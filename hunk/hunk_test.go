package hunk_test

import (
	"fmt"
	"math"
	"math/rand"
	"slices"
	"strings"
	"testing"

	"concordat/api"
	"concordat/hunk"
	"concordat/lcs"
)

func h(a, an, b, bn int) api.Hunk { return api.Hunk{A: a, An: an, B: b, Bn: bn} }

// P6.1
func TestOf(t *testing.T) {
	for _, c := range []struct {
		m    []int
		n    int
		want []api.Hunk
	}{
		{nil, 0, nil},
		{nil, 3, []api.Hunk{h(0, 0, 0, 3)}},
		{[]int{-1, -1}, 0, []api.Hunk{h(0, 2, 0, 0)}},
		{[]int{0, 1}, 2, nil},
		{[]int{0, -1, -1}, 3, []api.Hunk{h(1, 2, 1, 2)}},
		{[]int{-1, 0, -1, 1}, 2, []api.Hunk{h(0, 1, 0, 0), h(2, 1, 1, 0)}},
		{[]int{1, 3}, 5, []api.Hunk{h(0, 0, 0, 1), h(1, 0, 2, 1), h(2, 0, 4, 1)}},
		{[]int{-1, 2, -1, -1, 3, -1}, 4, []api.Hunk{h(0, 1, 0, 2), h(2, 2, 3, 0), h(5, 1, 4, 0)}},
	} {
		before := slices.Clone(c.m)
		if got := hunk.Of(c.m, c.n); !slices.Equal(got, c.want) || !slices.Equal(c.m, before) {
			t.Errorf("Of(%v, %d) = %v, want %v", c.m, c.n, got, c.want)
		}
	}
	for _, c := range []struct {
		m []int
		n int
	}{
		{nil, -1}, {[]int{-1}, -1}, {[]int{-2}, 3}, {[]int{0, math.MinInt}, 3}, {[]int{3}, 3}, {[]int{0, 0}, 3}, {[]int{1, 0}, 3}, {[]int{1, -1, 1}, 3}, {[]int{2, -1, 0}, 3}, {[]int{0}, 0}, {[]int{math.MaxInt}, 5},
	} {
		if got := hunk.Of(c.m, c.n); len(got) != 0 {
			t.Errorf("Of(%v, %d) = %v", c.m, c.n, got)
		}
	}
}

// P6.1
func TestTexts(t *testing.T) {
	for _, c := range []struct {
		a, b string
		want []api.Hunk
	}{
		{"", "", nil},
		{"a b c", "a x y", []api.Hunk{h(1, 2, 1, 2)}},
		{"a b c", "a b c", nil},
		{"a b c", "", []api.Hunk{h(0, 3, 0, 0)}},
		{"", "a b", []api.Hunk{h(0, 0, 0, 2)}},
		{"a b c", "b d", []api.Hunk{h(0, 1, 0, 0), h(2, 1, 1, 1)}},
		{"x y", "y x", []api.Hunk{h(0, 1, 0, 0), h(2, 0, 1, 1)}},
	} {
		if got := hunk.Texts(strings.Fields(c.a), strings.Fields(c.b)); !slices.Equal(got, c.want) {
			t.Errorf("Texts(%q, %q) = %v, want %v", c.a, c.b, got, c.want)
		}
	}
}

// P6.2
func TestCheck(t *testing.T) {
	for _, c := range []struct {
		l    []api.Hunk
		n, m int
		want api.Errno
	}{
		{nil, 0, 0, api.OK},
		{nil, 4, 4, api.OK},
		{nil, 4, 5, api.ErrHunk},
		{nil, -1, -1, api.ErrHunk},
		{nil, math.MaxInt, math.MaxInt, api.OK},
		{[]api.Hunk{h(0, 1, 0, 0)}, 1, 0, api.OK},
		{[]api.Hunk{h(0, 1, 0, 0)}, 2, 1, api.OK},
		{[]api.Hunk{h(0, 1, 0, 0)}, 1, 1, api.ErrHunk},
		{[]api.Hunk{h(0, 1, 0, 0)}, 0, 0, api.ErrHunk},
		{[]api.Hunk{h(0, 1, 0, 0)}, 0, -1, api.ErrHunk},
		{[]api.Hunk{h(0, 0, 0, 0)}, 0, 0, api.ErrHunk},
		{[]api.Hunk{h(1, 0, 1, 0)}, 3, 3, api.ErrHunk},
		{[]api.Hunk{h(1, -1, 1, 1)}, 3, 5, api.ErrHunk},
		{[]api.Hunk{h(1, 1, 1, -1)}, 5, 3, api.ErrHunk},
		{[]api.Hunk{h(-1, 1, -1, 1)}, 3, 3, api.ErrHunk},
		{[]api.Hunk{h(0, 1, 1, 1)}, 3, 3, api.ErrHunk},
		{[]api.Hunk{h(1, 1, 0, 1)}, 3, 3, api.ErrHunk},
		{[]api.Hunk{h(1, 1, 1, 1), h(3, 1, 3, 0)}, 4, 3, api.OK},
		{[]api.Hunk{h(1, 1, 1, 1), h(3, 1, 3, 0)}, 6, 5, api.OK},
		{[]api.Hunk{h(1, 1, 1, 1), h(2, 1, 2, 0)}, 4, 3, api.ErrHunk},
		{[]api.Hunk{h(1, 1, 1, 1), h(3, 1, 4, 1)}, 5, 5, api.ErrHunk},
		{[]api.Hunk{h(1, 2, 1, 0), h(4, 0, 2, 1)}, 5, 4, api.OK},
		{[]api.Hunk{h(3, 1, 3, 1), h(1, 1, 1, 1)}, 5, 5, api.ErrHunk},
		{[]api.Hunk{h(1, 2, 1, 2), h(2, 2, 2, 2)}, 9, 9, api.ErrHunk},
		{[]api.Hunk{h(0, math.MaxInt, 0, 1)}, math.MaxInt, 1, api.OK},
		{[]api.Hunk{h(1, math.MaxInt, 1, 1)}, math.MaxInt, 2, api.ErrHunk},
		{[]api.Hunk{h(1, math.MaxInt, 1, math.MaxInt)}, math.MinInt, math.MinInt, api.ErrHunk},
		{[]api.Hunk{h(math.MaxInt, 1, math.MaxInt, 1)}, 5, 5, api.ErrHunk},
		{[]api.Hunk{h(math.MinInt, 1, math.MinInt, 1)}, 5, 5, api.ErrHunk},
		{[]api.Hunk{h(0, 1, 0, 1), h(math.MinInt, 1, math.MinInt, 1)}, 5, 5, api.ErrHunk},
	} {
		if e := hunk.Check(c.l, c.n, c.m); e != c.want {
			t.Errorf("Check(%v, %d, %d) = %d, want %d", c.l, c.n, c.m, e, c.want)
		}
	}
}

// P6.2
func TestPatch(t *testing.T) {
	for _, c := range []struct {
		a, b string
		l    []api.Hunk
		want string
	}{
		{"", "", nil, ""},
		{"a b c", "x y z", nil, "a b c"},
		{"a b c", "x y", []api.Hunk{h(1, 2, 1, 1)}, "a y"},
		{"a b c", "w x y z v", []api.Hunk{h(0, 0, 0, 1), h(1, 1, 2, 2), h(3, 0, 5, 0)}, ""},
		{"a b c", "w x y z v", []api.Hunk{h(0, 0, 0, 1), h(1, 1, 2, 2)}, "w a y z c"},
		{"a b c", "", []api.Hunk{h(0, 3, 0, 0)}, ""},
		{"", "a b", []api.Hunk{h(0, 0, 0, 2)}, "a b"},
	} {
		a, b := strings.Fields(c.a), strings.Fields(c.b)
		got, e := hunk.Patch(a, c.l, b)
		if e != hunk.Check(c.l, len(a), len(b)) || strings.Join(got, " ") != c.want {
			t.Errorf("Patch(%q, %v, %q) = %q, %d, want %q", c.a, c.l, c.b, got, e, c.want)
		}
	}
	for _, l := range [][]api.Hunk{{h(0, 1, 0, 0)}, {h(0, 0, 0, 0)}, {h(4, 1, 4, 1)}, {h(-1, 1, -1, 1)}} {
		if got, e := hunk.Patch([]string{"a", "b"}, l, []string{"c", "d"}); len(got) != 0 || e != api.ErrHunk {
			t.Errorf("Patch with %v = %q, %d", l, got, e)
		}
	}
}

// P6.3
func TestInvertAndCost(t *testing.T) {
	l := []api.Hunk{h(1, 2, 3, 4), h(-1, -2, math.MaxInt, 9)}
	want := []api.Hunk{h(3, 4, 1, 2), h(math.MaxInt, 9, -1, -2)}
	got := hunk.Invert(l)
	if !slices.Equal(got, want) {
		t.Errorf("Invert = %v, want %v", got, want)
	}
	got[0].A = 77
	if l[0] != h(1, 2, 3, 4) || len(hunk.Invert(nil)) != 0 {
		t.Error("Invert changed its argument")
	}
	if n := hunk.Cost(l); n != 13 {
		t.Errorf("Cost = %d", n)
	}
	if n := hunk.Cost(nil); n != 0 {
		t.Errorf("Cost of nothing = %d", n)
	}
}

// words returns a list of up to 8 words.
func words(r *rand.Rand) []string {
	l := make([]string, r.Intn(9))
	for i := range l {
		l[i] = string(rune('a' + r.Intn(4)))
	}
	return l
}

// P6.1, P6.2, P6.4
func TestConsequences(t *testing.T) {
	r := rand.New(rand.NewSource(7))
	for range 3000 {
		a, b := words(r), words(r)
		before := fmt.Sprint(a, b)
		l := hunk.Texts(a, b)
		if e := hunk.Check(l, len(a), len(b)); e != api.OK {
			t.Fatalf("Texts(%q, %q) = %v is not valid", a, b, l)
		}
		if got, e := hunk.Patch(a, l, b); e != api.OK || !slices.Equal(got, b) {
			t.Fatalf("Patch(%q, %v, %q) = %q, %d", a, l, b, got, e)
		}
		if got, e := hunk.Patch(b, hunk.Invert(l), a); e != api.OK || !slices.Equal(got, a) {
			t.Fatalf("Patch(%q, %v, %q) = %q, %d", b, hunk.Invert(l), a, got, e)
		}
		k := lcs.Numbers(a, b)
		if n := hunk.Cost(l); n != len(a)+len(b)-2*lcs.Length(k[0], k[1]) {
			t.Fatalf("Cost of Texts(%q, %q) = %d", a, b, n)
		}
		if fmt.Sprint(a, b) != before {
			t.Fatal("an argument was changed")
		}
	}
}

// Rule 4: results are in new memory, and unused capacity does not change.
func TestNewMemory(t *testing.T) {
	a, b := append(make([]string, 0, 9), "a", "b"), append(make([]string, 0, 9), "b", "c")
	got, _ := hunk.Patch(a, []api.Hunk{h(1, 1, 1, 1)}, b)
	if !slices.Equal(got, []string{"a", "c"}) {
		t.Errorf("Patch = %q", got)
	}
	same, _ := hunk.Patch(a, nil, b)
	same[0], got[0], got[1] = "x", "x", "x"
	if strings.Join(a[:9], "") != "ab" || strings.Join(b[:9], "") != "bc" {
		t.Errorf("arguments are %q, %q", a[:9], b[:9])
	}
}
