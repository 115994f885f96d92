package lex_test

import (
	"math/rand"
	"slices"
	"strings"
	"testing"

	"concordat/api"
	"concordat/lex"
)

func token(kind int, text string, at int, lead string) api.Token {
	return api.Token{Kind: kind, Text: text, At: at, Lead: lead}
}

var words = []string{"class", "extends", "static", "void", "int", "boolean", "if", "else", "while", "return", "print", "true", "false", "null", "this", "new"}

var marks = []string{"==", "!=", "<=", ">=", "&&", "||", "+", "-", "*", "/", "%", "<", ">", "=", "!", "(", ")", "{", "}", ";", ",", "."}

// P3.1
func TestLex(t *testing.T) {
	for text, want := range map[string][]api.Token{
		"":                     {token(api.TokEnd, "", 0, "")},
		" ":                    {token(api.TokEnd, "", 1, " ")},
		"// x":                 {token(api.TokEnd, "", 4, "// x")},
		"//":                   {token(api.TokEnd, "", 2, "//")},
		"/**/":                 {token(api.TokEnd, "", 4, "/**/")},
		"a/*x*/<=1":            {token(api.TokName, "a", 0, ""), token(api.TokMark, "<=", 6, "/*x*/"), token(api.TokNumber, "1", 8, ""), token(api.TokEnd, "", 9, "")},
		"1a":                   {token(api.TokNumber, "1", 0, ""), token(api.TokName, "a", 1, ""), token(api.TokEnd, "", 2, "")},
		"a1_":                  {token(api.TokName, "a1_", 0, ""), token(api.TokEnd, "", 3, "")},
		"_":                    {token(api.TokName, "_", 0, ""), token(api.TokEnd, "", 1, "")},
		"classes class":        {token(api.TokName, "classes", 0, ""), token(api.TokWord, "class", 8, " "), token(api.TokEnd, "", 13, "")},
		"Int":                  {token(api.TokName, "Int", 0, ""), token(api.TokEnd, "", 3, "")},
		"===":                  {token(api.TokMark, "==", 0, ""), token(api.TokMark, "=", 2, ""), token(api.TokEnd, "", 3, "")},
		"<==":                  {token(api.TokMark, "<=", 0, ""), token(api.TokMark, "=", 2, ""), token(api.TokEnd, "", 3, "")},
		"=<":                   {token(api.TokMark, "=", 0, ""), token(api.TokMark, "<", 1, ""), token(api.TokEnd, "", 2, "")},
		"&&&&":                 {token(api.TokMark, "&&", 0, ""), token(api.TokMark, "&&", 2, ""), token(api.TokEnd, "", 4, "")},
		"*/":                   {token(api.TokMark, "*", 0, ""), token(api.TokMark, "/", 1, ""), token(api.TokEnd, "", 2, "")},
		"/ /x":                 {token(api.TokMark, "/", 0, ""), token(api.TokMark, "/", 2, " "), token(api.TokName, "x", 3, ""), token(api.TokEnd, "", 4, "")},
		"a//b\nc":              {token(api.TokName, "a", 0, ""), token(api.TokName, "c", 5, "//b\n"), token(api.TokEnd, "", 6, "")},
		"a//b\rc":              {token(api.TokName, "a", 0, ""), token(api.TokEnd, "", 6, "//b\rc")},
		"a //*\nb":             {token(api.TokName, "a", 0, ""), token(api.TokName, "b", 6, " //*\n"), token(api.TokEnd, "", 7, "")},
		"/*//*/a":              {token(api.TokName, "a", 6, "/*//*/"), token(api.TokEnd, "", 7, "")},
		"/*/*/a":               {token(api.TokName, "a", 5, "/*/*/"), token(api.TokEnd, "", 6, "")},
		"/***/a":               {token(api.TokName, "a", 5, "/***/"), token(api.TokEnd, "", 6, "")},
		"/*é\xff\x00*/a":       {token(api.TokName, "a", 8, "/*é\xff\x00*/"), token(api.TokEnd, "", 9, "")},
		" \t\r\n/*1*///2\n":    {token(api.TokEnd, "", 13, " \t\r\n/*1*///2\n")},
		"0":                    {token(api.TokNumber, "0", 0, ""), token(api.TokEnd, "", 1, "")},
		"2147483647":           {token(api.TokNumber, "2147483647", 0, ""), token(api.TokEnd, "", 10, "")},
		"-1":                   {token(api.TokMark, "-", 0, ""), token(api.TokNumber, "1", 1, ""), token(api.TokEnd, "", 2, "")},
		"abcdefghijklmnopqrst": {token(api.TokName, "abcdefghijklmnopqrst", 0, ""), token(api.TokEnd, "", 20, "")},
	} {
		if l, at, e := lex.Lex(text); !slices.Equal(l, want) || at != 0 || e != api.OK {
			t.Errorf("Lex(%q) = %v, %d, %d, want %v", text, l, at, e, want)
		}
	}
}

// P3.1: every keyword, operator and punctuation is a token of its own.
func TestKinds(t *testing.T) {
	for kind, l := range map[int][]string{api.TokWord: words, api.TokMark: marks} {
		for _, s := range l {
			want := []api.Token{token(kind, s, 1, " "), token(api.TokEnd, "", 1+len(s), "")}
			if got, at, e := lex.Lex(" " + s); !slices.Equal(got, want) || at != 0 || e != api.OK {
				t.Errorf("Lex of %q: %v, %d, %d", s, got, at, e)
			}
		}
	}
}

// P3.1
func TestErrors(t *testing.T) {
	for _, c := range []struct {
		text string
		at   int
		e    api.Errno
	}{
		{"a&b", 1, api.ErrByte},
		{"a|b", 1, api.ErrByte},
		{"&", 0, api.ErrByte},
		{"&&&", 2, api.ErrByte},
		{"a #", 2, api.ErrByte},
		{"é", 0, api.ErrByte},
		{"a\x00", 1, api.ErrByte},
		{"a\v", 1, api.ErrByte},
		{"a\f", 1, api.ErrByte},
		{"a\u00a0", 1, api.ErrByte},
		{"[", 0, api.ErrByte},
		{"\"", 0, api.ErrByte},
		{"'", 0, api.ErrByte},
		{"$", 0, api.ErrByte},
		{"@`?:~^\\]", 0, api.ErrByte},
		{"aé", 1, api.ErrByte},
		{"/*", 0, api.ErrNote},
		{"/*/", 0, api.ErrNote},
		{"a /*x* /", 2, api.ErrNote},
		{"/**/ /* // */ /*", 14, api.ErrNote},
		{"// /*\n/*", 6, api.ErrNote},
		{"00", 0, api.ErrNumber},
		{"01", 0, api.ErrNumber},
		{"a 2147483648", 2, api.ErrNumber},
		{"99999999999999999999999999", 0, api.ErrNumber},
		{"1 007", 2, api.ErrNumber},
		{"10000000000", 0, api.ErrNumber},
		{"abcdefghijklmnopqrstu", 0, api.ErrLimit},
		{"x " + strings.Repeat("_", 21), 2, api.ErrLimit},
		{strings.Repeat("a", 1000), 0, api.ErrLimit},
		{"1 & " + strings.Repeat("a", 21), 2, api.ErrByte},
		{strings.Repeat("a", 21) + " &", 0, api.ErrLimit},
		{"/* 00 */ 00 #", 9, api.ErrNumber},
		{strings.Repeat(" ", api.MaxText) + "#", 0, api.ErrLimit},
		{"#" + strings.Repeat(" ", api.MaxText), 0, api.ErrLimit},
		{strings.Repeat(" ", api.MaxText-1) + "#", api.MaxText - 1, api.ErrByte},
	} {
		if l, at, e := lex.Lex(c.text); len(l) != 0 || at != c.at || e != c.e {
			t.Errorf("Lex(%.40q) = %d tokens, %d, %d, want %d, %d", c.text, len(l), at, e, c.at, c.e)
		}
	}
}

// P3.1: texts of up to MaxText bytes have tokens, whatever they consist of.
func TestLong(t *testing.T) {
	for _, unit := range []string{" ", "a ", "(", "/**/", "//\n", "1;"} {
		text := strings.Repeat(unit, api.MaxText/len(unit))
		l, at, e := lex.Lex(text)
		if at != 0 || e != api.OK || lex.Unlex(l) != text {
			t.Errorf("%q repeated: %d, %d", unit, at, e)
		}
	}
}

// P3.2
func TestUnlex(t *testing.T) {
	for _, c := range []struct {
		l    []api.Token
		want string
	}{
		{nil, ""},
		{[]api.Token{token(0, "a", 7, "b")}, "ba"},
		{[]api.Token{token(api.TokEnd, "x", 0, " "), token(api.TokName, "", -1, "\n"), token(9, "y", 0, "")}, " x\ny"},
	} {
		before := slices.Clone(c.l)
		if got := lex.Unlex(c.l); got != c.want || !slices.Equal(c.l, before) {
			t.Errorf("Unlex(%v) = %q, want %q", c.l, got, c.want)
		}
	}
}

// P3.2
func TestKeptAndName(t *testing.T) {
	for _, s := range words {
		if !lex.Kept(s) || lex.Name(s) {
			t.Errorf("%q: kept %t, name %t", s, lex.Kept(s), lex.Name(s))
		}
	}
	for _, s := range []string{"a", "Z", "_", "a1", "_0", "A_b9", "Class", "classs", "clas", "ints", "abcdefghijklmnopqrst", "main", "string"} {
		if lex.Kept(s) || !lex.Name(s) {
			t.Errorf("%q: kept %t, name %t", s, lex.Kept(s), lex.Name(s))
		}
	}
	for _, s := range []string{"", " ", "1", "1a", "a ", " a", "a.b", "a-", "é", "aé", "+", "abcdefghijklmnopqrstu", "a\n", "int ", "class\x00", "a//"} {
		if lex.Kept(s) || lex.Name(s) {
			t.Errorf("%q: kept %t, name %t", s, lex.Kept(s), lex.Name(s))
		}
	}
}

// P3.3, and that tokens stand where they say, for texts of random pieces.
func TestLossless(t *testing.T) {
	r := rand.New(rand.NewSource(2))
	pieces := slices.Concat(words, marks, []string{"a", "b1", "_x", "0", "12", " ", "\n", "\t", "\r", "//c\n", "/*d*/", "/***/", "//"})
	for range 3000 {
		text := ""
		for range r.Intn(12) {
			text += pieces[r.Intn(len(pieces))]
		}
		l, at, e := lex.Lex(text)
		if e != api.OK {
			if len(l) != 0 || at < 0 || at >= len(text) {
				t.Fatalf("Lex(%q): %v, %d, %d", text, l, at, e)
			}
			continue
		}
		if got := lex.Unlex(l); got != text {
			t.Fatalf("Unlex(Lex(%q)) = %q", text, got)
		}
		for i, k := range l {
			if text[k.At:k.At+len(k.Text)] != k.Text || (k.Kind == api.TokEnd) != (i == len(l)-1) {
				t.Fatalf("Lex(%q): token %d is %v", text, i, k)
			}
		}
	}
}

// Each call returns a list of its own.
func TestNewMemory(t *testing.T) {
	a, _, _ := lex.Lex("a b")
	b, _, _ := lex.Lex("a b")
	a[0].Text = "x"
	if b[0].Text != "a" {
		t.Error("two results share memory")
	}
}
