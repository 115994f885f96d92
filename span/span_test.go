package span_test

import (
	"math"
	"math/rand"
	"slices"
	"strings"
	"testing"

	"concordat/api"
	"concordat/span"
)

func edit(from, to int, text string) api.Edit { return api.Edit{From: from, To: to, Text: text} }

// P2.1
func TestCheck(t *testing.T) {
	for _, c := range []struct {
		n    int
		l    []api.Edit
		want api.Errno
	}{
		{0, nil, api.OK},
		{5, nil, api.OK},
		{0, []api.Edit{edit(0, 0, "x")}, api.OK},
		{0, []api.Edit{edit(0, 1, "x")}, api.ErrSpan},
		{3, []api.Edit{edit(0, 3, "")}, api.OK},
		{3, []api.Edit{edit(0, 4, "")}, api.ErrSpan},
		{3, []api.Edit{edit(3, 3, "x")}, api.OK},
		{3, []api.Edit{edit(4, 4, "x")}, api.ErrSpan},
		{3, []api.Edit{edit(-1, 1, "x")}, api.ErrSpan},
		{3, []api.Edit{edit(-2, -1, "x")}, api.ErrSpan},
		{3, []api.Edit{edit(2, 1, "x")}, api.ErrSpan},
		{3, []api.Edit{edit(0, 1, "x"), edit(1, 2, "y")}, api.OK},
		{3, []api.Edit{edit(0, 1, "x"), edit(1, 1, "y")}, api.OK},
		{3, []api.Edit{edit(0, 2, "x"), edit(1, 3, "y")}, api.ErrSpan},
		{3, []api.Edit{edit(1, 1, "x"), edit(1, 1, "y")}, api.ErrSpan},
		{3, []api.Edit{edit(1, 1, "x"), edit(1, 2, "y")}, api.ErrSpan},
		{3, []api.Edit{edit(1, 2, "x"), edit(0, 1, "y")}, api.ErrSpan},
		{3, []api.Edit{edit(0, 0, "x"), edit(1, 2, "y"), edit(2, 2, "z"), edit(3, 3, "")}, api.OK},
		{3, []api.Edit{edit(0, 1, "x"), edit(2, 4, "y")}, api.ErrSpan},
		{math.MaxInt, []api.Edit{edit(0, math.MaxInt, "x"), edit(math.MaxInt, math.MaxInt, "y")}, api.OK},
		{math.MaxInt, []api.Edit{edit(math.MinInt, math.MaxInt, "x")}, api.ErrSpan},
		{-1, []api.Edit{edit(0, 0, "x")}, api.ErrSpan},
	} {
		if e := span.Check(c.n, c.l); e != c.want {
			t.Errorf("Check(%d, %v) = %d, want %d", c.n, c.l, e, c.want)
		}
	}
}

// P2.1
func TestApply(t *testing.T) {
	for _, c := range []struct {
		text string
		l    []api.Edit
		want string
	}{
		{"abcd", nil, "abcd"},
		{"", nil, ""},
		{"", []api.Edit{edit(0, 0, "x")}, "x"},
		{"abcd", []api.Edit{edit(1, 3, "xyz")}, "axyzd"},
		{"abcd", []api.Edit{edit(0, 4, "")}, ""},
		{"abcd", []api.Edit{edit(0, 0, "<"), edit(4, 4, ">")}, "<abcd>"},
		{"abcd", []api.Edit{edit(0, 2, "XY"), edit(2, 2, "-"), edit(3, 4, "")}, "XY-c"},
		{"abcd", []api.Edit{edit(1, 2, ""), edit(2, 3, "bc")}, "abcd"},
		{"é\xff\x00", []api.Edit{edit(1, 3, "\n")}, "\xc3\n\x00"},
	} {
		if got, e := span.Apply(c.text, c.l); got != c.want || e != api.OK {
			t.Errorf("Apply(%q, %v) = %q, %d, want %q", c.text, c.l, got, e, c.want)
		}
	}
	for _, l := range [][]api.Edit{
		{edit(0, 5, "x")}, {edit(-1, 0, "x")}, {edit(3, 2, "x")}, {edit(1, 1, "x"), edit(1, 1, "y")}, {edit(0, 2, "x"), edit(1, 3, "y")},
	} {
		if got, e := span.Apply("abcd", l); got != "" || e != api.ErrSpan {
			t.Errorf("Apply(abcd, %v) = %q, %d", l, got, e)
		}
		if got, e := span.Inverse("abcd", l); len(got) != 0 || e != api.ErrSpan {
			t.Errorf("Inverse(abcd, %v) = %v, %d", l, got, e)
		}
	}
}

// P2.2
func TestInverse(t *testing.T) {
	for _, c := range []struct {
		text string
		l    []api.Edit
		want []api.Edit
	}{
		{"abcd", nil, nil},
		{"abcd", []api.Edit{edit(1, 3, "xyz")}, []api.Edit{edit(1, 4, "bc")}},
		{"abcd", []api.Edit{edit(0, 0, "xx"), edit(1, 3, ""), edit(4, 4, "y")}, []api.Edit{edit(0, 2, ""), edit(3, 3, "bc"), edit(4, 5, "")}},
		{"abcd", []api.Edit{edit(0, 1, "A"), edit(1, 2, "BB"), edit(2, 3, "")}, []api.Edit{edit(0, 1, "a"), edit(1, 3, "b"), edit(3, 3, "c")}},
		{"abcd", []api.Edit{edit(0, 1, ""), edit(1, 2, "")}, []api.Edit{edit(0, 0, "a"), edit(0, 0, "b")}},
	} {
		if got, e := span.Inverse(c.text, c.l); !slices.Equal(got, c.want) || e != api.OK {
			t.Errorf("Inverse(%q, %v) = %v, %d, want %v", c.text, c.l, got, e, c.want)
		}
	}
}

// P2.3
func TestMoved(t *testing.T) {
	l := []api.Edit{edit(1, 3, "xyz"), edit(4, 4, "-"), edit(6, 8, "")}
	for at, want := range map[int]int{-1: -1, 0: 0, 1: -1, 2: -1, 3: 4, 4: 6, 5: 7, 6: -1, 7: -1, 8: 8, 9: 9, 1000: 1000} {
		got, is := span.Moved(l, at)
		if is != (want >= 0) || is && got != want || !is && got != 0 {
			t.Errorf("Moved(%v, %d) = %d, %t, want %d", l, at, got, is, want)
		}
	}
	for _, c := range []struct {
		l    []api.Edit
		at   int
		want int
		is   bool
	}{
		{nil, 0, 0, true},
		{nil, 7, 7, true},
		{nil, -7, 0, false},
		{nil, math.MaxInt, math.MaxInt, true},
		{[]api.Edit{edit(0, 0, "ab")}, 0, 2, true},
		{[]api.Edit{edit(2, 2, "ab")}, 1, 1, true},
		{[]api.Edit{edit(2, 2, "ab")}, 2, 4, true},
		{[]api.Edit{edit(0, 0, "ab")}, math.MaxInt, math.MinInt + 1, true},
		{[]api.Edit{edit(0, math.MaxInt, "")}, math.MaxInt, 0, true},
		{[]api.Edit{edit(0, math.MaxInt, "")}, math.MaxInt - 1, 0, false},
		{[]api.Edit{edit(5, 4, "")}, 0, 0, false},
		{[]api.Edit{edit(-1, 4, "")}, 9, 0, false},
		{[]api.Edit{edit(5, 6, ""), edit(5, 7, "")}, 0, 0, false},
		{[]api.Edit{edit(5, 6, ""), edit(4, 5, "")}, 0, 0, false},
	} {
		if got, is := span.Moved(c.l, c.at); got != c.want || is != c.is {
			t.Errorf("Moved(%v, %d) = %d, %t, want %d, %t", c.l, c.at, got, is, c.want, c.is)
		}
	}
}

// P2.4
func TestSort(t *testing.T) {
	l := []api.Edit{edit(3, 4, "a"), edit(1, 5, "b"), edit(3, 3, "c"), edit(1, 5, "a"), edit(-2, 0, ""), edit(3, 4, "0"), edit(math.MaxInt, math.MinInt, "x"), edit(math.MinInt, math.MaxInt, "y")}
	before := slices.Clone(l)
	want := []api.Edit{edit(math.MinInt, math.MaxInt, "y"), edit(-2, 0, ""), edit(1, 5, "b"), edit(1, 5, "a"), edit(3, 3, "c"), edit(3, 4, "a"), edit(3, 4, "0"), edit(math.MaxInt, math.MinInt, "x")}
	got := span.Sort(l)
	if !slices.Equal(got, want) {
		t.Errorf("Sort = %v, want %v", got, want)
	}
	if !slices.Equal(l, before) {
		t.Error("Sort changed its argument")
	}
	got[0].Text = "changed"
	if !slices.Equal(l, before) {
		t.Error("the result of Sort shares memory with its argument")
	}
	if len(span.Sort(nil)) != 0 {
		t.Error("Sort of nothing is something")
	}
}

// P2.4
func TestBoth(t *testing.T) {
	for _, c := range []struct {
		a, b, want []api.Edit
		e          api.Errno
	}{
		{nil, nil, nil, api.OK},
		{[]api.Edit{edit(1, 2, "x")}, nil, []api.Edit{edit(1, 2, "x")}, api.OK},
		{nil, []api.Edit{edit(1, 2, "x")}, []api.Edit{edit(1, 2, "x")}, api.OK},
		{[]api.Edit{edit(4, 5, "y")}, []api.Edit{edit(1, 2, "x")}, []api.Edit{edit(1, 2, "x"), edit(4, 5, "y")}, api.OK},
		{[]api.Edit{edit(1, 2, "x")}, []api.Edit{edit(1, 2, "x")}, []api.Edit{edit(1, 2, "x")}, api.OK},
		{[]api.Edit{edit(1, 2, "x"), edit(2, 3, "y")}, []api.Edit{edit(1, 2, "x"), edit(3, 3, "z")}, []api.Edit{edit(1, 2, "x"), edit(2, 3, "y"), edit(3, 3, "z")}, api.OK},
		{[]api.Edit{edit(1, 1, "x")}, []api.Edit{edit(1, 1, "x")}, []api.Edit{edit(1, 1, "x")}, api.OK},
		{[]api.Edit{edit(1, 2, "x")}, []api.Edit{edit(1, 2, "y")}, nil, api.ErrSpan},
		{[]api.Edit{edit(1, 1, "x")}, []api.Edit{edit(1, 2, "x")}, nil, api.ErrSpan},
		{[]api.Edit{edit(1, 3, "x")}, []api.Edit{edit(2, 4, "y")}, nil, api.ErrSpan},
		{[]api.Edit{edit(1, 3, "x")}, []api.Edit{edit(3, 3, "y")}, []api.Edit{edit(1, 3, "x"), edit(3, 3, "y")}, api.OK},
		{[]api.Edit{edit(3, 2, "x")}, nil, nil, api.ErrSpan},
		{nil, []api.Edit{edit(-1, 2, "x")}, nil, api.ErrSpan},
		{[]api.Edit{edit(1, 2, "x"), edit(1, 2, "x")}, nil, nil, api.ErrSpan},
		{nil, []api.Edit{edit(1, 2, "x"), edit(1, 2, "x")}, nil, api.ErrSpan},
		{[]api.Edit{edit(1, 2, "x"), edit(0, 1, "x")}, nil, nil, api.ErrSpan},
	} {
		got, e := span.Both(c.a, c.b)
		if !slices.Equal(got, c.want) || e != c.e {
			t.Errorf("Both(%v, %v) = %v, %d, want %v, %d", c.a, c.b, got, e, c.want, c.e)
		}
	}
}

// Rule 4: neither the arguments nor their unused capacity change.
func TestArguments(t *testing.T) {
	a := append(make([]api.Edit, 0, 8), edit(3, 4, "x"))
	b := append(make([]api.Edit, 0, 8), edit(1, 2, "y"), edit(7, 7, "z"))
	span.Both(a, b)
	span.Sort(a)
	span.Apply("0123456789", b)
	span.Inverse("0123456789", b)
	span.Moved(b, 5)
	for _, e := range slices.Concat(a[1:8], b[2:8]) {
		if e != (api.Edit{}) {
			t.Errorf("unused capacity holds %v", e)
		}
	}
	if a[0] != edit(3, 4, "x") || b[0] != edit(1, 2, "y") || b[1] != edit(7, 7, "z") {
		t.Error("an argument was changed")
	}
	got, _ := span.Both(a, nil)
	got[0].Text = "changed"
	if a[0].Text != "x" {
		t.Error("the result of Both shares memory with its argument")
	}
}

// edits returns a valid list for a string of n bytes.
func edits(r *rand.Rand, n int) []api.Edit {
	var l []api.Edit
	for at := r.Intn(3); at <= n; at += 1 + r.Intn(3) {
		to := min(n, at+r.Intn(4))
		l = append(l, edit(at, to, strings.Repeat("xy", r.Intn(3))))
		at = to
	}
	return l
}

// P2.5
func TestConsequences(t *testing.T) {
	r := rand.New(rand.NewSource(1))
	for range 2000 {
		text := strings.Repeat("abcdefghij", 3)[:r.Intn(30)]
		l := edits(r, len(text))
		changed, e := span.Apply(text, l)
		back, e2 := span.Inverse(text, l)
		if e != api.OK || e2 != api.OK || len(back) != len(l) {
			t.Fatalf("%q %v: %d, %d", text, l, e, e2)
		}
		if span.Check(len(changed), back) == api.OK {
			if got, _ := span.Apply(changed, back); got != text {
				t.Fatalf("%q %v: undone to %q", text, l, got)
			}
		}
		for at := range len(text) {
			if to, is := span.Moved(l, at); is && changed[to] != text[at] {
				t.Fatalf("%q %v: the byte at %d is not at %d", text, l, at, to)
			}
		}
		var a, b []api.Edit
		for _, e := range l {
			if r.Intn(2) == 0 {
				a = append(a, e)
			} else {
				b = append(b, e)
			}
		}
		if got, e := span.Both(a, b); e != api.OK || !slices.Equal(got, l) {
			t.Fatalf("Both(%v, %v) = %v, %d", a, b, got, e)
		}
	}
}
