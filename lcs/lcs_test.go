package lcs_test

import (
	"fmt"
	"math"
	"math/rand"
	"slices"
	"testing"

	"concordat/api"
	"concordat/lcs"
)

// longest is the length of a longest common subsequence, by its definition.
func longest(a, b []int) int {
	switch {
	case len(a) == 0 || len(b) == 0:
		return 0
	case a[0] == b[0]:
		return 1 + longest(a[1:], b[1:])
	}
	return max(longest(a[1:], b), longest(a, b[1:]))
}

// match is what P5.2 says, word by word.
func match(a, b []int) []int {
	out := slices.Repeat([]int{-1}, len(a))
	for i, k := 0, 0; i < len(a) && k < len(b); {
		switch {
		case a[i] == b[k]:
			out[i] = k
			i, k = i+1, k+1
		case longest(a[i+1:], b[k:]) >= longest(a[i:], b[k+1:]):
			i++
		default:
			k++
		}
	}
	return out
}

// row returns a list of n numbers, which are below many.
func row(r *rand.Rand, n, many int) []int {
	l := make([]int, n)
	for i := range l {
		l[i] = r.Intn(many)
	}
	return l
}

// alike returns a list of n elements with the value x.
func alike(n, x int) []int { return slices.Repeat([]int{x}, n) }

// P5.1, P5.2, P5.3
func TestShort(t *testing.T) {
	for _, c := range []struct {
		a, b    []int
		length  int
		match   []int
		percent int
	}{
		{nil, nil, 0, nil, 100},
		{[]int{1}, nil, 0, []int{-1}, 0},
		{nil, []int{1}, 0, nil, 0},
		{[]int{1}, []int{1}, 1, []int{0}, 100},
		{[]int{1}, []int{2}, 0, []int{-1}, 0},
		{[]int{1, 2, 3, 2}, []int{2, 3, 1, 2}, 3, []int{-1, 0, 1, 3}, 75},
		{[]int{1, 2}, []int{2, 1}, 1, []int{-1, 0}, 50},
		{[]int{1, 1, 1}, []int{1}, 1, []int{0, -1, -1}, 50},
		{[]int{1}, []int{1, 1, 1}, 1, []int{0}, 50},
		{[]int{1, 2, 3}, []int{1, 3}, 2, []int{0, -1, 1}, 80},
		{[]int{1, 3}, []int{1, 2, 3}, 2, []int{0, 2}, 80},
		{[]int{1, 2, 1, 3}, []int{2, 1, 2, 3}, 3, []int{-1, 0, 1, 3}, 75},
		{[]int{1, 2, 3}, []int{1}, 1, []int{0, -1, -1}, 50},
		{[]int{1, 2, 3, 4, 5}, []int{1, 9}, 1, []int{0, -1, -1, -1, -1}, 28},
		{[]int{math.MinInt, math.MaxInt, 0, -1}, []int{math.MaxInt, -1}, 2, []int{-1, 0, -1, 1}, 66},
	} {
		if n := lcs.Length(c.a, c.b); n != c.length {
			t.Errorf("Length(%v, %v) = %d, want %d", c.a, c.b, n, c.length)
		}
		if m := lcs.Match(c.a, c.b); !slices.Equal(m, c.match) {
			t.Errorf("Match(%v, %v) = %v, want %v", c.a, c.b, m, c.match)
		}
		if n := lcs.Percent(c.a, c.b); n != c.percent {
			t.Errorf("Percent(%v, %v) = %d, want %d", c.a, c.b, n, c.percent)
		}
	}
}

// P5.1, P5.2, P5.5
func TestRandom(t *testing.T) {
	r := rand.New(rand.NewSource(5))
	for range 3000 {
		many := 1 + r.Intn(4)
		a, b := row(r, r.Intn(9), many), row(r, r.Intn(9), many)
		before := fmt.Sprint(a, b)
		n := longest(a, b)
		if got := lcs.Length(a, b); got != n {
			t.Fatalf("Length(%v, %v) = %d, want %d", a, b, got, n)
		}
		m := lcs.Match(a, b)
		if want := match(a, b); !slices.Equal(m, want) {
			t.Fatalf("Match(%v, %v) = %v, want %v", a, b, m, want)
		}
		last, matched := -1, 0
		for i, k := range m {
			if k < 0 {
				continue
			}
			if k <= last || a[i] != b[k] {
				t.Fatalf("Match(%v, %v) = %v", a, b, m)
			}
			last = k
			matched++
		}
		if matched != n {
			t.Fatalf("Match(%v, %v) = %v has %d elements, not %d", a, b, m, matched, n)
		}
		if fmt.Sprint(a, b) != before {
			t.Fatal("an argument was changed")
		}
		if lcs.Length(b, a) != n {
			t.Fatalf("Length(%v, %v) is another one if they are exchanged", a, b)
		}
		slices.Reverse(a)
		slices.Reverse(b)
		if lcs.Length(a, b) != n {
			t.Fatalf("Length(%v, %v) is another one if they are reversed", a, b)
		}
	}
}

// P5.1, P5.2, P5.3: lists of up to MaxRow elements are not too long, longer ones are.
func TestTooLong(t *testing.T) {
	most := api.MaxRow
	// A rotated list has only a short prefix and suffix in common with itself.
	rotated := func(n int) ([]int, []int) {
		a := make([]int, n)
		for i := range a {
			a[i] = i
		}
		return a, append(slices.Clone(a[1:]), 0)
	}
	a, b := rotated(most)
	if n := lcs.Length(a, b); n != most-1 {
		t.Errorf("Length of %d elements = %d", most, n)
	}
	if n := lcs.Percent(a, b); n != 200*(most-1)/(2*most) {
		t.Errorf("Percent of %d elements = %d", most, n)
	}
	if m := lcs.Match(a, b); m[0] != -1 || m[1] != 0 || m[most-1] != most-2 {
		t.Errorf("Match of %d elements = %v ..", most, m[:3])
	}
	a, b = rotated(most + 1)
	if n := lcs.Length(a, b); n != 0 {
		t.Errorf("Length of %d elements = %d", most+1, n)
	}
	if n := lcs.Percent(a, b); n != 0 {
		t.Errorf("Percent of %d elements = %d", most+1, n)
	}
	if m := lcs.Match(a, b); !slices.Equal(m, alike(most+1, -1)) {
		t.Errorf("Match of %d elements = %v ..", most+1, m[:3])
	}
	// One list that is too long suffices, whichever it is.
	long, short := append([]int{7, 8}, alike(most, 9)...), []int{8, 7, 9, 9}
	if n := lcs.Length(long, short); n != 2 {
		t.Errorf("Length = %d", n)
	}
	if n := lcs.Length(short, long); n != 2 {
		t.Errorf("Length = %d", n)
	}
	m := lcs.Match(long, short)
	if want := append(alike(most, -1), 2, 3); !slices.Equal(m, want) {
		t.Errorf("Match = .. %v", m[most-2:])
	}
	if m := lcs.Match(short, long); !slices.Equal(m, []int{-1, -1, most, most + 1}) {
		t.Errorf("Match = %v", m)
	}
}

// P5.1, P5.2: the suffix begins only after the prefix.
func TestPrefixAndSuffix(t *testing.T) {
	n := api.MaxRow + 10
	for _, c := range []struct {
		a, b  []int
		want  int
		match []int
	}{
		{alike(n, 1), alike(n-3, 1), n - 3, nil},
		{alike(n-3, 1), alike(n, 1), n - 3, nil},
		{alike(n, 1), alike(n, 1), n, nil},
		{alike(n, 1), nil, 0, alike(n, -1)},
		{slices.Concat([]int{1, 2}, alike(n, 3), []int{4, 5}), []int{1, 2, 9, 4, 5}, 4, slices.Concat([]int{0, 1}, alike(n, -1), []int{3, 4})},
		{slices.Concat([]int{1}, alike(n, 3), []int{1}), []int{1}, 1, slices.Concat([]int{0}, alike(n+1, -1))},
	} {
		if got := lcs.Length(c.a, c.b); got != c.want {
			t.Errorf("Length = %d, want %d", got, c.want)
		}
		m := lcs.Match(c.a, c.b)
		matched := 0
		for i, k := range m {
			if k >= 0 {
				matched++
				if c.match == nil && k != i {
					t.Errorf("%d is matched with %d", i, k)
				}
			}
		}
		if matched != c.want || c.match != nil && !slices.Equal(m, c.match) {
			t.Errorf("%d elements are matched, not %d", matched, c.want)
		}
	}
}

// P5.2: many equal elements, of which the first possible ones are matched.
func TestLong(t *testing.T) {
	r := rand.New(rand.NewSource(6))
	a, b := row(r, api.MaxRow, 3), row(r, api.MaxRow, 3)
	n, last := 0, -1
	for i, k := range lcs.Match(a, b) {
		if k >= 0 {
			if k <= last || a[i] != b[k] {
				t.Fatalf("%d is matched with %d", i, k)
			}
			last = k
			n++
		}
	}
	if want := lcs.Length(a, b); n != want {
		t.Errorf("%d elements are matched, not %d", n, want)
	}
}

// P5.2, P5.4
func TestTexts(t *testing.T) {
	for _, c := range []struct {
		a, b []string
		want []int
	}{
		{nil, nil, nil},
		{[]string{"a"}, nil, []int{-1}},
		{[]string{"x", "y", "z", "y"}, []string{"y", "z", "x", "y"}, []int{-1, 0, 1, 3}},
		{[]string{"", "a\n", "A\n"}, []string{"A\n", ""}, []int{-1, -1, 0}},
	} {
		before := fmt.Sprint(c.a, c.b)
		if got := lcs.Texts(c.a, c.b); !slices.Equal(got, c.want) {
			t.Errorf("Texts(%q, %q) = %v, want %v", c.a, c.b, got, c.want)
		}
		if fmt.Sprint(c.a, c.b) != before {
			t.Error("an argument was changed")
		}
	}
}

// P5.4
func TestNumbers(t *testing.T) {
	for _, c := range []struct {
		rows [][]string
		want [][]int
	}{
		{nil, nil},
		{[][]string{nil}, [][]int{nil}},
		{[][]string{{"b", "a", "b"}, nil, {"c", "a", "", "c"}, {"b"}}, [][]int{{0, 1, 0}, nil, {2, 1, 3, 2}, {0}}},
		{[][]string{{"a", "A", "a ", "\xff", "\xfe"}}, [][]int{{0, 1, 2, 3, 4}}},
	} {
		got := lcs.Numbers(c.rows...)
		if !slices.EqualFunc(got, c.want, func(a, b []int) bool { return slices.Equal(a, b) }) {
			t.Errorf("Numbers(%q) = %v, want %v", c.rows, got, c.want)
		}
	}
}

// The lists of a result share no memory, not even their unused capacity.
func TestNewMemory(t *testing.T) {
	l := lcs.Numbers([]string{"a", "b"}, []string{"c", "a"}, []string{"b"})
	_ = append(l[0], 77)
	_ = append(l[1], 77)
	l[0][0] = 88
	if !slices.Equal(l[1], []int{2, 0}) || !slices.Equal(l[2], []int{1}) {
		t.Errorf("two lists share memory: %v", l)
	}
}
