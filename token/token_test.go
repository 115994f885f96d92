package token_test

import (
	"math"
	"math/rand"
	"slices"
	"strings"
	"testing"

	"concordat/api"
	"concordat/lex"
	"concordat/token"
)

// tokens returns every keyword, operator and punctuation, and names and numbers.
func tokens() []string {
	return []string{
		"class", "extends", "static", "void", "int", "boolean", "if", "else", "while", "return", "print", "true", "false", "null", "this", "new",
		"==", "!=", "<=", ">=", "&&", "||", "+", "-", "*", "/", "%", "<", ">", "=", "!", "(", ")", "{", "}", ";", ",", ".",
		"a", "B", "_", "x1", "abcdefghijklmnopqrst", "0", "1", "2147483647",
	}
}

// others returns strings that are not one token.
func others() []string {
	return []string{"", " ", "a ", " a", "a b", "a/**/", "/**/a", "//", "&", "|", "#", "01", "2147483648", "abcdefghijklmnopqrstu", "1a", "-1", "a.b", "a\n", "/*", "é", strings.Repeat("a", api.MaxText+1)}
}

// P4.1
func TestKind(t *testing.T) {
	for s, want := range map[string]int{"a": api.TokName, "_1": api.TokName, "abcdefghijklmnopqrst": api.TokName, "0": api.TokNumber, "2147483647": api.TokNumber, "class": api.TokWord, "new": api.TokWord, "<=": api.TokMark, "<": api.TokMark, ".": api.TokMark, "&&": api.TokMark} {
		if k := token.Kind(s); k != want {
			t.Errorf("Kind(%q) = %d, want %d", s, k, want)
		}
	}
	for _, s := range others() {
		if k := token.Kind(s); k != 0 {
			t.Errorf("Kind(%.30q) = %d", s, k)
		}
	}
	for _, s := range tokens() {
		if l, _, _ := lex.Lex(s); token.Kind(s) != l[0].Kind {
			t.Errorf("Kind(%q) = %d", s, token.Kind(s))
		}
	}
}

// apart reports whether a and b, side by side, are these two tokens.
func apart(a, b string) bool {
	l, _, e := lex.Lex(a + b)
	return e == api.OK && len(l) == 3 && l[0].Text == a && l[1].Text == b && l[1].Lead == "" && l[2].Lead == ""
}

// P4.1
func TestGap(t *testing.T) {
	for _, c := range []struct {
		a, b string
		want bool
	}{
		{"a", "1", true}, {"<", "=", true}, {"/", "*", true}, {"/", "/", true}, {"a", "b", true}, {"int", "x", true}, {"1", "2", true}, {"0", "0", true}, {"=", "==", true}, {"!", "=", true},
		{"1", "a", false}, {")", "a", false}, {"a", "(", false}, {"*", "/", false}, {"-", "-", false}, {"==", "=", false}, {"&&", "&&", false}, {"1", "class", false}, {"=", "<", false}, {".", "1", false}, {"1", ".", false},
		{"", "a", false}, {"a", "", false}, {"&", "&", false}, {"a ", "b", false}, {"a", " b", false}, {"01", "1", false}, {"", "", false},
	} {
		if got := token.Gap(c.a, c.b); got != c.want {
			t.Errorf("Gap(%q, %q) = %t", c.a, c.b, got)
		}
	}
	for _, a := range tokens() {
		for _, b := range tokens() {
			if got := token.Gap(a, b); got == apart(a, b) {
				t.Errorf("Gap(%q, %q) = %t", a, b, got)
			}
		}
		for _, b := range others() {
			if token.Gap(a, b) || token.Gap(b, a) {
				t.Errorf("Gap of %q and %.30q", a, b)
			}
		}
	}
}

// P4.2
func TestSpell(t *testing.T) {
	for _, c := range []struct {
		l    []string
		want string
		is   bool
	}{
		{nil, "", true},
		{[]string{"a"}, "a", true},
		{[]string{"int", "x", "=", "-", "-", "1", ";"}, "int x=--1;", true},
		{[]string{"a", "<", "=", "b"}, "a< =b", true},
		{[]string{"a", "/", "/", "*", "b"}, "a/ / *b", true},
		{[]string{"1", "a", "1"}, "1a 1", true},
		{[]string{"a", "/", "*", "b"}, "a/ *b", true},
		{[]string{"a", ""}, "", false},
		{[]string{"", "a"}, "", false},
		{[]string{"a", " b"}, "", false},
		{[]string{"a", "&"}, "", false},
		{[]string{"a", "b", "01"}, "", false},
	} {
		before := slices.Clone(c.l)
		got, is := token.Spell(c.l)
		if got != c.want || is != c.is || !slices.Equal(c.l, before) {
			t.Errorf("Spell(%q) = %q, %t, want %q", c.l, got, is, c.want)
		}
	}
}

// P4.2
func TestTexts(t *testing.T) {
	l := []api.Token{{Kind: api.TokName, Text: "a"}, {Kind: api.TokEnd, Text: "b"}, {Kind: 0, Text: ""}, {Kind: api.TokMark, Text: "+"}, {Kind: 77, Text: "c"}, {Kind: api.TokEnd}}
	before := slices.Clone(l)
	if got := token.Texts(l); !slices.Equal(got, []string{"a", "", "+", "c"}) || !slices.Equal(l, before) {
		t.Errorf("Texts = %q", got)
	}
	if got := token.Texts(nil); len(got) != 0 {
		t.Errorf("Texts of nothing = %q", got)
	}
}

// P4.2
func TestAt(t *testing.T) {
	l, _, _ := lex.Lex("ab  +/*x*/1")
	for at, want := range map[int]int{-1: -1, 0: 0, 1: 0, 2: -1, 3: -1, 4: 1, 5: -1, 9: -1, 10: 2, 11: -1, 12: -1, math.MaxInt: -1, math.MinInt: -1} {
		if got := token.At(l, at); got != want {
			t.Errorf("At(%d) = %d, want %d", at, got, want)
		}
	}
	for _, c := range []struct {
		l    []api.Token
		at   int
		want int
	}{
		{nil, 0, -1},
		{[]api.Token{{Text: "", At: 3}, {Text: "abc", At: 2}, {Text: "abc", At: 3}}, 3, 1},
		{[]api.Token{{Text: "abc", At: math.MinInt}}, math.MaxInt, -1},
		{[]api.Token{{Text: "abc", At: math.MinInt}}, math.MinInt + 2, 0},
		{[]api.Token{{Text: "abc", At: math.MinInt}}, 0, -1},
		{[]api.Token{{Text: "abc", At: math.MinInt}}, 1, -1},
		{[]api.Token{{Text: "abc", At: math.MaxInt}}, math.MaxInt, 0},
		{[]api.Token{{Text: "abc", At: math.MaxInt - 1}}, math.MaxInt, 0},
		{[]api.Token{{Text: "abc", At: math.MaxInt}}, math.MinInt, -1},
		{[]api.Token{{Text: "abc", At: -2}}, 0, 0},
		{[]api.Token{{Text: "abc", At: -2}}, 1, -1},
	} {
		if got := token.At(c.l, c.at); got != c.want {
			t.Errorf("At(%v, %d) = %d, want %d", c.l, c.at, got, c.want)
		}
	}
}

// P4.3
func TestSpelt(t *testing.T) {
	r := rand.New(rand.NewSource(4))
	all := tokens()
	for range 3000 {
		var l []string
		for range r.Intn(10) {
			l = append(l, all[r.Intn(len(all))])
		}
		s, is := token.Spell(l)
		k, _, e := lex.Lex(s)
		if !is || e != api.OK || !slices.Equal(token.Texts(k), l) {
			t.Fatalf("Spell(%q) = %q, %t", l, s, is)
		}
		spaces := 0
		for i := range l {
			if i > 0 && !apart(l[i-1], l[i]) {
				spaces++
			}
		}
		if n := len(s) - len(strings.Join(l, "")); n != spaces {
			t.Fatalf("Spell(%q) = %q has %d spaces, not %d", l, s, n, spaces)
		}
	}
}
