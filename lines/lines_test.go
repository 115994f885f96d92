package lines_test

import (
	"math"
	"slices"
	"strings"
	"testing"

	"concordat/lines"
)

// texts are strings with all the ways in which lines may begin and end.
func texts() []string {
	return []string{
		"", "a", "\n", "a\n", "\na", "a\nb", "a\nb\n", "\n\n", "\n\n\n", "a\n\nb", "a\n\n",
		"\r\n", "a\r\nb\r", "\r", "a\rb", "\x00\n\xff", "é\nü\n", " \n\t\n", "\v\f\u2028\u0085x",
		strings.Repeat("x", 1000) + "\n" + strings.Repeat("y", 1000),
	}
}

// split cuts text behind each newline, and leaves out an empty last line.
func split(text string) []string {
	l := strings.SplitAfter(text, "\n")
	if last := len(l) - 1; l[last] == "" {
		l = l[:last]
	}
	return l
}

// P1.1
func TestSplit(t *testing.T) {
	for text, want := range map[string][]string{
		"":           nil,
		"a":          {"a"},
		"a\n":        {"a\n"},
		"\n":         {"\n"},
		"\n\n":       {"\n", "\n"},
		"\na":        {"\n", "a"},
		"a\n\nb":     {"a\n", "\n", "b"},
		"a\r\nb\r":   {"a\r\n", "b\r"},
		"é\nb\n":     {"é\n", "b\n"},
		"\xff\n\x00": {"\xff\n", "\x00"},
	} {
		if l := lines.Split(text); !slices.Equal(l, want) {
			t.Errorf("Split(%q) = %q, want %q", text, l, want)
		}
	}
	for _, text := range texts() {
		if l := lines.Split(text); !slices.Equal(l, split(text)) {
			t.Errorf("Split(%q) = %q", text, l)
		}
	}
}

// P1.1
func TestJoin(t *testing.T) {
	for _, c := range []struct {
		l    []string
		want string
	}{
		{nil, ""},
		{[]string{}, ""},
		{[]string{""}, ""},
		{[]string{"a", "b"}, "ab"},
		{[]string{"a\n", "", "\n", "b"}, "a\n\nb"},
		{[]string{"\n", "\n"}, "\n\n"},
	} {
		before := slices.Clone(c.l)
		if got := lines.Join(c.l); got != c.want {
			t.Errorf("Join(%q) = %q, want %q", c.l, got, c.want)
		}
		if !slices.Equal(before, c.l) {
			t.Errorf("Join changed its argument to %q", c.l)
		}
	}
}

// P1.1
func TestCount(t *testing.T) {
	for text, want := range map[string]int{"": 0, "a": 1, "\n": 1, "a\n": 1, "a\nb": 2, "a\nb\n": 2, "\n\n": 2, "\r\r": 1, "a\n\nb": 3} {
		if n := lines.Count(text); n != want {
			t.Errorf("Count(%q) = %d, want %d", text, n, want)
		}
	}
	for _, text := range texts() {
		if n := lines.Count(text); n != len(split(text)) {
			t.Errorf("Count(%q) = %d", text, n)
		}
	}
}

// P1.2
func TestPlace(t *testing.T) {
	for _, c := range []struct {
		text         string
		at           int
		line, column int
	}{
		{"", 0, 1, 1},
		{"", 1, 0, 0},
		{"", -1, 0, 0},
		{"a\n\nb", 0, 1, 1},
		{"a\n\nb", 1, 1, 2},
		{"a\n\nb", 2, 2, 1},
		{"a\n\nb", 3, 3, 1},
		{"a\n\nb", 4, 3, 2},
		{"a\n\nb", 5, 0, 0},
		{"a\n\nb", -1, 0, 0},
		{"a\n", 2, 2, 1},
		{"\n", 0, 1, 1},
		{"\n", 1, 2, 1},
		{"ab", 2, 1, 3},
		{"é\nx", 1, 1, 2},
		{"é\nx", 2, 1, 3},
		{"é\nx", 3, 2, 1},
		{"a\rb", 2, 1, 3},
		{"a", math.MaxInt, 0, 0},
		{"a", math.MinInt, 0, 0},
	} {
		if line, column := lines.Place(c.text, c.at); line != c.line || column != c.column {
			t.Errorf("Place(%q, %d) = %d, %d, want %d, %d", c.text, c.at, line, column, c.line, c.column)
		}
	}
}

// P1.2
func TestStart(t *testing.T) {
	for _, c := range []struct {
		text string
		line int
		at   int
		is   bool
	}{
		{"", 1, 0, true},
		{"", 0, 0, false},
		{"", 2, 0, false},
		{"a", 1, 0, true},
		{"a", 2, 0, false},
		{"a\n", 1, 0, true},
		{"a\n", 2, 2, true},
		{"a\n", 3, 0, false},
		{"a\n\nb", 1, 0, true},
		{"a\n\nb", 2, 2, true},
		{"a\n\nb", 3, 3, true},
		{"a\n\nb", 4, 0, false},
		{"a\n\nb", 0, 0, false},
		{"a\n\nb", -1, 0, false},
		{"\n\n", 3, 2, true},
		{"\n\n", 4, 0, false},
		{"a\n", math.MaxInt, 0, false},
		{"a\n", math.MinInt, 0, false},
	} {
		if at, is := lines.Start(c.text, c.line); at != c.at || is != c.is {
			t.Errorf("Start(%q, %d) = %d, %t, want %d, %t", c.text, c.line, at, is, c.at, c.is)
		}
	}
}

// P1.3
func TestWhole(t *testing.T) {
	for text, want := range map[string]string{"": "", "a": "a\n", "a\n": "a\n", "\n": "\n", "a\nb": "a\nb\n", "a\r": "a\r\n", "\na": "\na\n", " ": " \n"} {
		if got := lines.Whole(text); got != want {
			t.Errorf("Whole(%q) = %q, want %q", text, got, want)
		}
	}
}

// P1.4
func TestInverse(t *testing.T) {
	for _, text := range texts() {
		if got := lines.Join(lines.Split(text)); got != text {
			t.Errorf("Join(Split(%q)) = %q", text, got)
		}
		for at := range len(text) + 1 {
			line, column := lines.Place(text, at)
			if from, is := lines.Start(text, line); !is || from+column-1 != at {
				t.Errorf("%q: offset %d is at %d, %d, and that line begins at %d, %t", text, at, line, column, from, is)
			}
		}
		for line := 1; line <= lines.Count(text)+1; line++ {
			at, is := lines.Start(text, line)
			if l, column := lines.Place(text, at); is && (l != line || column != 1) {
				t.Errorf("%q: line %d begins at %d, which is at %d, %d", text, line, at, l, column)
			}
		}
	}
}

// Each call returns a list of its own.
func TestNewMemory(t *testing.T) {
	a, b := lines.Split("a\nb"), lines.Split("a\nb")
	a[0] = "x"
	if b[0] != "a\n" {
		t.Error("two results share memory")
	}
}
