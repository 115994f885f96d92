package fallback_test

import (
	"math"
	"math/rand"
	"slices"
	"strings"
	"testing"

	"concordat/api"
	"concordat/fallback"
	"concordat/marker"
	"concordat/weave"
)

// P32.1
func TestFile(t *testing.T) {
	for _, c := range []struct {
		o, a, b string // "-": does not exist
		old     bool
		text    string
		is      bool
		kind    int
	}{
		{"-", "-", "-", false, "", false, 0},
		{"a\n", "-", "-", true, "", false, 0},
		{"a\n", "a\n", "a\n", false, "a\n", true, 0},
		{"a\n", "b\n", "a\n", false, "b\n", true, 0},
		{"a\n", "a\n", "", false, "", true, 0},
		{"", "", "", true, "", true, 0},
		{"1\n2\n3\n", "x\n2\n3\n", "1\n2\ny\n", false, "x\n2\ny\n", true, 0},
		{"a\n", "b\n", "c\n", false, "<<<<<<< ours\nb\n=======\nc\n>>>>>>> theirs\n", true, api.InText},
		{"a\n", "b\n", "c\n", true, "<<<<<<< ours\nb\n||||||| base\na\n=======\nc\n>>>>>>> theirs\n", true, api.InText},
		{"a\n", "=======\n", "c", false, "<<<<<<<< ours\n=======\n========\nc\n>>>>>>>>! theirs\n", true, api.InText},
		{"1\na\n2\n", "1\nb\n2\n", "1\nc\n2\n", false, "1\n<<<<<<< ours\nb\n=======\nc\n>>>>>>> theirs\n2\n", true, api.InText},
		// Without a base.
		{"-", "a\n", "a\n", false, "a\n", true, 0},
		{"-", "a\n", "b\n", true, "<<<<<<< ours\na\n||||||| base\n=======\nb\n>>>>>>> theirs\n", true, api.InText},
		{"-", "a", "-", false, "a", true, 0},
		{"-", "-", "b", true, "b", true, 0},
		{"-", "", "-", true, "", true, 0},
		{"-", "<<<<<<< ours\n", "-", true, "<<<<<<< ours\n", true, 0},
		// With a base, and one side alone.
		{"a", "a", "-", false, "", false, 0},
		{"a", "-", "a", true, "", false, 0},
		{"", "", "-", true, "", false, 0},
		{"", "-", "", true, "", false, 0},
		{"a\n", "b\n", "-", false, "<<<<<<< ours\nb\n=======\n>>>>>>> theirs\n", true, api.InGone},
		{"a\n", "-", "b", true, "<<<<<<< ours\n||||||| base\na\n=======\nb\n>>>>>>>! theirs\n", true, api.InGone},
		{"a\n", "a", "-", false, "<<<<<<< ours\na\n=======!\n>>>>>>> theirs\n", true, api.InGone},
		{"", "a\nb\n", "-", true, "<<<<<<< ours\na\nb\n||||||| base\n=======\n>>>>>>> theirs\n", true, api.InGone},
		{">>>>>>>>\n", "-", "", false, "<<<<<<<<< ours\n=========\n>>>>>>>>> theirs\n", true, api.InGone},
		{"1\na\n2\n", "1\nb\n2\n", "-", false, "<<<<<<< ours\n1\nb\n2\n=======\n>>>>>>> theirs\n", true, api.InGone},
	} {
		texts := []string{c.o, c.a, c.b}
		var there [3]bool
		for i, s := range texts {
			there[i] = s != "-"
		}
		text, is, kind := fallback.File(texts[0], texts[1], texts[2], there, c.old)
		if text != c.text || is != c.is || kind != c.kind {
			t.Errorf("File(%q, %q, %q, %t) = %q, %t, %d, want %q, %t, %d", c.o, c.a, c.b, c.old, text, is, kind, c.text, c.is, c.kind)
		}
	}
	// What does not exist counts as empty, whatever it is.
	for i, c := range []struct {
		there [3]bool
		text  string
		is    bool
		kind  int
	}{
		{[3]bool{}, "", false, 0},
		{[3]bool{true, false, false}, "", false, 0},
		{[3]bool{false, true, false}, "a", true, 0},
		{[3]bool{false, false, true}, "b", true, 0},
		{[3]bool{false, true, true}, "<<<<<<< ours\na\n|||||||! base\n=======\nb\n>>>>>>>! theirs\n", true, api.InText},
		{[3]bool{true, true, false}, "<<<<<<< ours\na\n|||||||! base\no\n=======!\n>>>>>>> theirs\n", true, api.InGone},
		{[3]bool{true, false, true}, "<<<<<<< ours\n||||||| base\no\n=======!\nb\n>>>>>>>! theirs\n", true, api.InGone},
	} {
		if text, is, kind := fallback.File("o", "a", "b", c.there, true); text != c.text || is != c.is || kind != c.kind {
			t.Errorf("case %d: %q, %t, %d", i, text, is, kind)
		}
	}
}

// P32.2
func TestTrees(t *testing.T) {
	file := func(path, text string) api.File { return api.File{Path: path, Text: text} }
	o := []api.File{file("a", "1\n"), file("b", "1\n"), file("c", "1\n"), file("e", "1\n"), file("f", "&\n")}
	a := []api.File{file("a", "2\n"), file("b", "2\n"), file("c", "2\n"), file("d", "x"), file("f", "&\n#\n")}
	b := []api.File{file("a", "1\n"), file("b", "3\n"), file("d", "x"), file("e", "1\n"), file("f", "@\n&\n"), file("g", "")}
	before := [][]api.File{slices.Clone(o), slices.Clone(a), slices.Clone(b)}
	want := []api.File{
		file("a", "2\n"), file("b", "<<<<<<< ours\n2\n=======\n3\n>>>>>>> theirs\n"), file("c", "<<<<<<< ours\n2\n=======\n>>>>>>> theirs\n"),
		file("d", "x"), file("f", "@\n&\n#\n"), file("g", ""),
	}
	bad := []api.Conflict{{Kind: api.InText, Key: "b"}, {Kind: api.InGone, Key: "c"}}
	if got, conflicts := fallback.Trees(o, a, b, false); !slices.Equal(got, want) || !slices.Equal(conflicts, bad) {
		t.Errorf("Trees = %v, %v", got, conflicts)
	}
	want[1].Text = "<<<<<<< ours\n2\n||||||| base\n1\n=======\n3\n>>>>>>> theirs\n"
	want[2].Text = "<<<<<<< ours\n2\n||||||| base\n1\n=======\n>>>>>>> theirs\n"
	if got, conflicts := fallback.Trees(o, a, b, true); !slices.Equal(got, want) || !slices.Equal(conflicts, bad) {
		t.Errorf("Trees = %v, %v", got, conflicts)
	}
	if !slices.Equal(o, before[0]) || !slices.Equal(a, before[1]) || !slices.Equal(b, before[2]) {
		t.Error("an argument was changed")
	}
	if got, conflicts := fallback.Trees(nil, nil, nil, true); len(got)+len(conflicts) != 0 {
		t.Errorf("Trees of nothing = %v, %v", got, conflicts)
	}
	// Lists that are no trees: the first file of a path counts, and the order of the paths.
	odd := []api.File{file("z", "1\n"), file("", "2\n"), file("z", "3\n")}
	if got, _ := fallback.Trees(odd, odd, odd, false); !slices.Equal(got, []api.File{file("", "2\n"), file("z", "1\n")}) {
		t.Errorf("Trees = %v", got)
	}
}

// P32.3
func TestSidesAndMarks(t *testing.T) {
	for _, c := range []struct {
		text string
		n    int
		want [3]string
		e    api.Errno
	}{
		{"", 7, [3]string{}, api.OK},
		{"a\n", 7, [3]string{"a\n", "a\n", "a\n"}, api.OK},
		{"x\n<<\na\n||\no\n==!\nb\n>>\ny", 2, [3]string{"x\noy", "x\na\ny", "x\nb\ny"}, api.OK},
		{"<<\na\n==\nb\n>>\n", 2, [3]string{"", "a\n", "b\n"}, api.OK},
		{"<<\na\n", 2, [3]string{}, api.ErrMark},
		{"a\n>>\n", 2, [3]string{}, api.ErrMark},
		{"a\n", 0, [3]string{}, api.ErrMark},
		{"a\n", math.MinInt, [3]string{}, api.ErrMark},
	} {
		if got, e := fallback.Sides(c.text, c.n); got != c.want || e != c.e {
			t.Errorf("Sides(%q, %d) = %q, %d, want %q, %d", c.text, c.n, got, e, c.want, c.e)
		}
	}
	for _, c := range []struct {
		o, a, b string
		want    int
	}{
		{"", "", "", 7}, {"a\n", "b\n", "c\n", 7}, {"<<<<<<<\n", "b\n", "c\n", 8}, {"a\n", "========\n", "c\n", 9}, {"a\n", "b\n", "|||||||||x", 10}, {" >>>>>>>>\n", "x<<<<<<<<<", "", 7},
		{"=======\n", "=======\n", "=======\n", 8}, {"========\n", "a\n", "a\n", 9},
	} {
		if got := fallback.Marks(c.o, c.a, c.b); got != c.want {
			t.Errorf("Marks(%q, %q, %q) = %d, want %d", c.o, c.a, c.b, got, c.want)
		}
	}
}

// text returns some lines, of which some look like marker lines.
func text(r *rand.Rand) string {
	s := ""
	for range r.Intn(5) {
		s += []string{"a", "b", "c", "<<<<<<<", "=======", "|||||||| base", ">>>>>>> theirs", "<<<<<<< ours"}[r.Intn(8)] + "\n"
	}
	if r.Intn(4) == 0 {
		s += "d"
	}
	return s
}

// P32.3, P32.4
func TestConsequences(t *testing.T) {
	r := rand.New(rand.NewSource(23))
	all := [3]bool{true, true, true}
	for range 3000 {
		o, a, b := text(r), text(r), text(r)
		parts := weave.Lines(o, a, b)
		shown, n := marker.Show(parts, true)
		got, is, kind := fallback.File(o, a, b, all, true)
		if got != shown || !is {
			t.Fatalf("File(%q, %q, %q) = %q, %t, want %q", o, a, b, got, is, shown)
		}
		if m := fallback.Marks(o, a, b); m != n {
			t.Fatalf("Marks(%q, %q, %q) = %d, want %d", o, a, b, m, n)
		}
		if joined, clean := weave.Join(parts); clean != (kind == 0) || clean && got != joined {
			t.Fatalf("File(%q, %q, %q) = %q, %d", o, a, b, got, kind)
		}
		// Outside clashes a text has only one side, and it must end with a newline before a clash.
		whole := true
		for i, p := range parts {
			whole = whole && (p.Clash || i == len(parts)-1 || strings.HasSuffix(p.A, "\n"))
		}
		sides, e := fallback.Sides(got, n)
		if !whole {
			continue
		}
		base := ""
		for _, p := range parts {
			if p.Clash {
				base += p.O
			} else {
				base += p.A
			}
		}
		if e != api.OK || sides != [3]string{base, weave.Side(parts, 1), weave.Side(parts, 2)} {
			t.Fatalf("File(%q, %q, %q) = %q, its sides are %q, %d", o, a, b, got, sides, e)
		}
		for i, old := range []bool{false, true} {
			text, _, kind := fallback.File(o, a, "", [3]bool{true, i == 0, i == 1}, old)
			if kind != api.InGone {
				continue
			}
			m := marker.Length(o, a)
			if i == 1 {
				m = marker.Length(o)
			}
			if parts, e := marker.Parse(text, m); e != api.OK || len(parts) != 1 || !parts[0].Clash {
				t.Fatalf("%q is parsed as %v, %d", text, parts, e)
			}
		}
	}
}
