package weave_test

import (
	"math"
	"math/rand"
	"slices"
	"strings"
	"testing"

	"concordat/api"
	"concordat/diff3"
	"concordat/lex"
	"concordat/lines"
	"concordat/weave"
)

func same(o, a string) api.Part     { return api.Part{O: o, A: a, B: a} }
func clash(o, a, b string) api.Part { return api.Part{Clash: true, O: o, A: a, B: b} }

// P8.1
func TestLines(t *testing.T) {
	for _, c := range []struct {
		o, a, b string
		want    []api.Part
	}{
		{"", "", "", nil},
		{"a\nb\n", "a\nb\n", "a\nb\n", []api.Part{same("a\nb\n", "a\nb\n")}},
		{"", "a\n", "", []api.Part{same("", "a\n")}},
		{"", "", "a", []api.Part{same("", "a")}},
		{"a\n", "", "a\n", []api.Part{same("a\n", "")}},
		{"", "a", "b", []api.Part{clash("", "a", "b")}},
		{"a\n", "b\n", "c\n", []api.Part{clash("a\n", "b\n", "c\n")}},
		{"1\n2\n3\n", "1\nx\n3\n", "1\n2\n3\n4\n", []api.Part{same("1\n2\n3\n", "1\nx\n3\n4\n")}},
		{"1\n2\n3\n4\n5", "1\nx\n3\n4\nz", "0\n1\ny\n3\n5", []api.Part{same("1\n", "0\n1\n"), clash("2\n", "x\n", "y\n"), same("3\n", "3\n"), clash("4\n5", "4\nz", "5")}},
		{"1\n2\n", "1\nx\n", "1\nx\n", []api.Part{same("1\n2\n", "1\nx\n")}},
		{"a&\n", "a&\n", "b#\n", []api.Part{same("a&\n", "b#\n")}},
		{"a", "a\n", "b", []api.Part{clash("a", "a\n", "b")}},
	} {
		if got := weave.Lines(c.o, c.a, c.b); !slices.Equal(got, c.want) {
			t.Errorf("Lines(%q, %q, %q) = %v, want %v", c.o, c.a, c.b, got, c.want)
		}
	}
}

// P8.1
func TestUnits(t *testing.T) {
	for _, c := range []struct {
		text string
		want []string
		is   bool
	}{
		{"", []string{""}, true},
		{" ", []string{" "}, true},
		{"a+/*x*/ 1 //y", []string{"a", "+", "/*x*/ 1", " //y"}, true},
		{"a=b;\n", []string{"a", "=", "b", ";", "\n"}, true},
		{"a&b", nil, false},
		{"/*", nil, false},
		{"01", nil, false},
	} {
		if got, is := weave.Units(c.text); !slices.Equal(got, c.want) || is != c.is {
			t.Errorf("Units(%q) = %q, %t, want %q", c.text, got, is, c.want)
		}
	}
}

// P8.1
func TestTokens(t *testing.T) {
	for _, c := range []struct {
		o, a, b string
		want    []api.Part
		is      bool
	}{
		{"", "", "", []api.Part{same("", "")}, true},
		{"a=b+c;", "x=b+c;", "a=b+d;", []api.Part{same("a=b+c;", "x=b+d;")}, true},
		{"a=1;", "a=2;", "a=3;", []api.Part{same("a=", "a="), clash("1", "2", "3"), same(";", ";")}, true},
		{"a b", "a  b", "a b c", []api.Part{same("a", "a"), clash(" b", "  b", " b c"), same("", "")}, true},
		{"a\n", "a", "a\n", []api.Part{same("a\n", "a")}, true},
		{"&", "", "", nil, false},
		{"", "&", "", nil, false},
		{"", "", "&", nil, false},
	} {
		if got, is := weave.Tokens(c.o, c.a, c.b); !slices.Equal(got, c.want) || is != c.is {
			t.Errorf("Tokens(%q, %q, %q) = %v, %t, want %v", c.o, c.a, c.b, got, is, c.want)
		}
	}
}

// P8.2
func TestJoinAndSide(t *testing.T) {
	for _, c := range []struct {
		l       []api.Part
		text    string
		is      bool
		o, a, b string
	}{
		{nil, "", true, "", "", ""},
		{[]api.Part{{O: "1", A: "2", B: "3"}, {O: "4", A: "5", B: "6"}}, "25", true, "14", "25", "36"},
		{[]api.Part{{O: "1", A: "2", B: "3"}, {Clash: true, O: "4", A: "5", B: "6"}}, "", false, "14", "25", "36"},
		{[]api.Part{{Clash: true}, {A: "x"}}, "", false, "", "x", ""},
	} {
		before := slices.Clone(c.l)
		if got, is := weave.Join(c.l); got != c.text || is != c.is {
			t.Errorf("Join(%v) = %q, %t", c.l, got, is)
		}
		for side, want := range map[int]string{0: c.o, 1: c.a, 2: c.b, 3: "", -1: "", math.MaxInt: "", math.MinInt: ""} {
			if got := weave.Side(c.l, side); got != want {
				t.Errorf("Side(%v, %d) = %q, want %q", c.l, side, got, want)
			}
		}
		if !slices.Equal(c.l, before) {
			t.Error("an argument was changed")
		}
	}
}

// P8.3
func TestText(t *testing.T) {
	for _, c := range []struct {
		o, a, b, want string
		is            bool
	}{
		{"", "", "", "", true},
		{"&", "&", "x", "x", true},
		{"&", "x", "&", "x", true},
		{"&", "#", "#", "#", true},
		{"a=b+c;", "x=b+c;", "a=b+d;", "x=b+d;", true},
		{"a=1;", "a=2;", "a=3;", "", false},
		{"a\nb\nc\n", "x\nb\nc\n", "a\nb\ny\n", "x\nb\ny\n", true},
		// Without tokens only the lines count.
		{"&\nb\nc\n", "#\nb\nc\n", "&\nb\nd\n", "#\nb\nd\n", true},
		{"& b\n", "# b\n", "& c\n", "", false},
		{"a /*\n", "b /*\n", "a /* c\n", "", false},
	} {
		if got, is := weave.Text(c.o, c.a, c.b); got != c.want || is != c.is {
			t.Errorf("Text(%q, %q, %q) = %q, %t, want %q", c.o, c.a, c.b, got, is, c.want)
		}
	}
}

// P8.3: where tokens clash, lines may still go together, and tokens come first.
func TestTokensAndLines(t *testing.T) {
	r := rand.New(rand.NewSource(9))
	byTokens, byLines, neither := 0, 0, 0
	for range 20000 {
		o := text(r)
		a, b := changed(r, o), changed(r, o)
		got, is := weave.Text(o, a, b)
		l, lexed := weave.Tokens(o, a, b)
		woven, clean := weave.Join(l)
		plain, cleanLines := weave.Join(weave.Lines(o, a, b))
		want, wanted := "", false
		switch {
		case a == o:
			want, wanted = b, true
		case b == o || a == b:
			want, wanted = a, true
		case lexed && clean:
			want, wanted = woven, true
			if !cleanLines || plain != woven {
				byTokens++
			}
		case cleanLines:
			want, wanted = plain, true
			byLines++
		default:
			neither++
		}
		if got != want || is != wanted {
			t.Fatalf("Text(%q, %q, %q) = %q, %t, want %q", o, a, b, got, is, want)
		}
		if other, is2 := weave.Text(o, b, a); other != got || is2 != is {
			t.Fatalf("Text(%q, %q, %q) = %q, %t, and exchanged %q", o, a, b, got, is, other)
		}
	}
	if byTokens == 0 || byLines == 0 || neither == 0 {
		t.Errorf("%d by tokens, %d by lines, %d not at all", byTokens, byLines, neither)
	}
}

// text returns some lines of some tokens.
func text(r *rand.Rand) string {
	s := ""
	for range r.Intn(9) {
		s += []string{"a", "b", "=", "1", ";", "\n", "\n", " ", "//c\n", "&"}[r.Intn(10-r.Intn(2))]
	}
	return s
}

// changed returns s with some bytes changed, left out, or added.
func changed(r *rand.Rand, s string) string {
	if r.Intn(3) == 0 {
		return s
	}
	at := r.Intn(len(s) + 1)
	to := min(len(s), at+r.Intn(3))
	return s[:at] + text(r) + s[to:]
}

// parts are the parts of three lists of strings, by their definition.
func parts(o, a, b []string) []api.Part {
	var out []api.Part
	for _, c := range diff3.Parts(o, a, b) {
		x, y, z := strings.Join(o[c.O.From:c.O.To], ""), strings.Join(a[c.A.From:c.A.To], ""), strings.Join(b[c.B.From:c.B.To], "")
		p := same(x, y)
		if c.Kind == api.Right {
			p = same(x, z)
		}
		if c.Kind == api.Clash {
			out = append(out, clash(x, y, z))
		} else if n := len(out); n > 0 && !out[n-1].Clash {
			out[n-1] = same(out[n-1].O+p.O, out[n-1].A+p.A)
		} else {
			out = append(out, p)
		}
	}
	return out
}

// units are the tokens of s with what precedes them.
func units(s string) []string {
	l, _, _ := lex.Lex(s)
	var out []string
	for _, t := range l {
		out = append(out, t.Lead+t.Text)
	}
	return out
}

// P8.1, P8.4
func TestRandom(t *testing.T) {
	r := rand.New(rand.NewSource(10))
	for range 5000 {
		o := text(r)
		a, b := changed(r, o), changed(r, o)
		l := weave.Lines(o, a, b)
		if want := parts(lines.Split(o), lines.Split(a), lines.Split(b)); !slices.Equal(l, want) {
			t.Fatalf("Lines(%q, %q, %q) = %v, want %v", o, a, b, l, want)
		}
		if got := weave.Side(l, 0); got != o {
			t.Fatalf("Side of Lines(%q, %q, %q) = %q", o, a, b, got)
		}
		for _, p := range l {
			if !p.Clash && p.A != p.B {
				t.Fatalf("Lines(%q, %q, %q) = %v", o, a, b, l)
			}
		}
		if k, is := weave.Tokens(o, a, b); is {
			if want := parts(units(o), units(a), units(b)); !slices.Equal(k, want) {
				t.Fatalf("Tokens(%q, %q, %q) = %v, want %v", o, a, b, k, want)
			}
		}
	}
	l := weave.Lines("1\n2\n", "3\n4\n", "5\n6\n")
	for side, want := range []string{"1\n2\n", "3\n4\n", "5\n6\n"} {
		if got := weave.Side(l, side); got != want {
			t.Errorf("side %d where everything clashes: %q", side, got)
		}
	}
}

// Texts of many lines are merged as well.
func TestLong(t *testing.T) {
	o := strings.Repeat("a;\n", 1<<17)
	if got, is := weave.Text(o, "x;\n"+o, o+"y;\n"); !is || got != "x;\n"+o+"y;\n" {
		t.Errorf("%d bytes, %t", len(got), is)
	}
}
