package marker_test

import (
	"math"
	"math/rand"
	"slices"
	"strings"
	"testing"

	"concordat/api"
	"concordat/marker"
)

func plain(text string) api.Part    { return api.Part{O: text, A: text, B: text} }
func clash(o, a, b string) api.Part { return api.Part{Clash: true, O: o, A: a, B: b} }

// P9.1
func TestLength(t *testing.T) {
	for _, c := range []struct {
		texts []string
		want  int
	}{
		{nil, 7},
		{[]string{""}, 7},
		{[]string{"a\nb", "<<<<<<\n"}, 7},
		{[]string{"<<<<<<<"}, 8},
		{[]string{"a\n=======\nb"}, 8},
		{[]string{"||||||||| x"}, 10},
		{[]string{"x>>>>>>>>>"}, 7},
		{[]string{" <<<<<<<<"}, 7},
		{[]string{"<<<<====>>>>||||"}, 7},
		{[]string{"<<<<<<<<======="}, 9},
		{[]string{"\n\n>>>>>>>>>>>", "========"}, 12},
		{[]string{"========", ">>>>>>>>>>>"}, 12},
		{[]string{"!!!!!!!!!!!", "-----------"}, 7},
		{[]string{"a\r=========="}, 7},
		{[]string{strings.Repeat("=", 1000)}, 1001},
	} {
		if n := marker.Length(c.texts...); n != c.want {
			t.Errorf("Length(%q) = %d, want %d", c.texts, n, c.want)
		}
	}
}

// P9.2
func TestPrint(t *testing.T) {
	for _, c := range []struct {
		l    []api.Part
		n    int
		old  bool
		want string
	}{
		{nil, 7, true, ""},
		{[]api.Part{{O: "o", A: "a", B: "b"}}, 7, true, "a"},
		{[]api.Part{clash("o\n", "a\n", "b\n")}, 7, false, "<<<<<<< ours\na\n=======\nb\n>>>>>>> theirs\n"},
		{[]api.Part{clash("o\n", "a\n", "b\n")}, 7, true, "<<<<<<< ours\na\n||||||| base\no\n=======\nb\n>>>>>>> theirs\n"},
		{[]api.Part{clash("", "x", "y\n")}, 7, false, "<<<<<<< ours\nx\n=======!\ny\n>>>>>>> theirs\n"},
		{[]api.Part{clash("o", "x", "y")}, 2, false, "<< ours\nx\n==!\ny\n>>! theirs\n"},
		{[]api.Part{clash("o", "x", "y")}, 2, true, "<< ours\nx\n||! base\no\n==!\ny\n>>! theirs\n"},
		{[]api.Part{clash("", "", "")}, 1, true, "< ours\n| base\n=\n> theirs\n"},
		{[]api.Part{clash("", "", "")}, 1, false, "< ours\n=\n> theirs\n"},
		{[]api.Part{clash("\n", "\n", "\n\n")}, 1, true, "< ours\n\n| base\n\n=\n\n\n> theirs\n"},
		{[]api.Part{clash("", "a", "")}, 0, false, "< ours\na\n=!\n> theirs\n"},
		{[]api.Part{clash("", "", "a")}, -5, false, "< ours\n=\na\n>! theirs\n"},
		{[]api.Part{clash("", "", "")}, math.MinInt, false, "< ours\n=\n> theirs\n"},
		{[]api.Part{plain("a"), plain("b\n"), clash("", "x\n", ""), plain("c")}, 3, true, "ab\n<<< ours\nx\n||| base\n===\n>>> theirs\nc"},
		{[]api.Part{plain("a"), clash("", "", "")}, 1, false, "a< ours\n=\n> theirs\n"},
		{[]api.Part{plain("a")}, math.MaxInt, false, "a"},
	} {
		before := slices.Clone(c.l)
		if got := marker.Print(c.l, c.n, c.old); got != c.want || !slices.Equal(c.l, before) {
			t.Errorf("Print(%v, %d, %t) = %q, want %q", c.l, c.n, c.old, got, c.want)
		}
	}
}

// P9.3
func TestParse(t *testing.T) {
	for _, c := range []struct {
		text string
		n    int
		want []api.Part
	}{
		{"", 1, nil},
		{"a", 1, []api.Part{plain("a")}},
		{"a\nb\n", 7, []api.Part{plain("a\nb\n")}},
		{"<<\n==\n>>\n", 2, []api.Part{clash("", "", "")}},
		{"<< ours\n== \n==\n>> theirs\n", 2, []api.Part{clash("", "== \n", "")}},
		{"x\n<< ours\na\n||\no\n==\nb\n>>\ny", 2, []api.Part{plain("x\n"), clash("o\n", "a\n", "b\n"), plain("y")}},
		{"<<\na\n|| base\n==\n>>\n<<\n==\n>>\n", 2, []api.Part{clash("", "a\n", ""), clash("", "", "")}},
		{"<<\na\n||! base\no\n==!\nb\n>>! theirs\n", 2, []api.Part{clash("o", "a", "b")}},
		{"<<\n\n==!\n\n\n>>!\n", 2, []api.Part{clash("", "", "\n")}},
		// Lines that are no marker lines of length 2.
		{"<<", 2, []api.Part{plain("<<")}},
		{"<<< ours\n", 2, []api.Part{plain("<<< ours\n")}},
		{"<\n=\n", 2, []api.Part{plain("<\n=\n")}},
		{" <<\n", 2, []api.Part{plain(" <<\n")}},
		{"<< theirs\n", 2, []api.Part{plain("<< theirs\n")}},
		{">> ours\n", 2, []api.Part{plain(">> ours\n")}},
		{"|| theirs\n", 2, []api.Part{plain("|| theirs\n")}},
		{"== ours\n", 2, []api.Part{plain("== ours\n")}},
		{"== \n", 2, []api.Part{plain("== \n")}},
		{"==  \n", 2, []api.Part{plain("==  \n")}},
		{"<< \n", 2, []api.Part{plain("<< \n")}},
		{"<<  ours\n", 2, []api.Part{plain("<<  ours\n")}},
		{"<<ours\n", 2, []api.Part{plain("<<ours\n")}},
		{"<< ours \n", 2, []api.Part{plain("<< ours \n")}},
		{"<< ours!\n", 2, []api.Part{plain("<< ours!\n")}},
		{">> !\n", 2, []api.Part{plain(">> !\n")}},
		{">>!!\n", 2, []api.Part{plain(">>!!\n")}},
		{">>!theirs\n", 2, []api.Part{plain(">>!theirs\n")}},
		{"<< Ours\n", 2, []api.Part{plain("<< Ours\n")}},
		{"<<\r\n", 2, []api.Part{plain("<<\r\n")}},
		{"<=\n", 2, []api.Part{plain("<=\n")}},
		{"!!\n", 2, []api.Part{plain("!!\n")}},
		{"<<\n=\n<<<\n==\n<<< ours\n>>>\n>>\n", 2, []api.Part{clash("", "=\n<<<\n", "<<< ours\n>>>\n")}},
		{"<<\n==\n>>\n>> x\n", 2, []api.Part{clash("", "", ""), plain(">> x\n")}},
		{"<\n", math.MaxInt, []api.Part{plain("<\n")}},
	} {
		if got, e := marker.Parse(c.text, c.n); !slices.Equal(got, c.want) || e != api.OK {
			t.Errorf("Parse(%q, %d) = %v, %d, want %v", c.text, c.n, got, e, c.want)
		}
	}
}

// P9.3
func TestParseErrors(t *testing.T) {
	for _, c := range []struct {
		text string
		n    int
	}{
		{"", 0}, {"a", -1}, {"a", math.MinInt},
		{"||\n", 2}, {"==\n", 2}, {">>\n", 2}, {"|| base\n", 2}, {">> theirs\n", 2},
		{"a\n<<!\n==\n>>\n", 2}, {"<<! ours\n==\n>>\n", 2}, {"==!\n", 2},
		{"<<\n", 2}, {"<<\na", 2}, {"<<\n||\n", 2}, {"<<\n==\n", 2}, {"<<\n==\n>>", 2}, {"<<\n==\nb\n>> theirs", 2},
		{"<<\n<<\n==\n>>\n", 2}, {"<<\n>>\n", 2}, {"<<\n||\n||\n==\n>>\n", 2}, {"<<\n||\n>>\n", 2}, {"<<\n||\n<<\n==\n>>\n", 2},
		{"<<\n==\n==\n>>\n", 2}, {"<<\n==\n||\n>>\n", 2}, {"<<\n==\n<<\n>>\n", 2},
		{"<<\n==!\n>>\n", 2}, {"<<\n==\n>>!\n", 2}, {"<<\n||!\n==\n>>\n", 2}, {"<<\na\n||\n==!\n>>\n", 2},
		{"<<\n==\n>>\n>>\n", 2}, {"<<\na\n<<! ours\n==\n>>\n", 2},
	} {
		if got, e := marker.Parse(c.text, c.n); len(got) != 0 || e != api.ErrMark {
			t.Errorf("Parse(%q, %d) = %v, %d", c.text, c.n, got, e)
		}
	}
}

// P9.2
func TestShow(t *testing.T) {
	for _, c := range []struct {
		l    []api.Part
		old  bool
		want string
		n    int
	}{
		{nil, true, "", 7},
		{[]api.Part{clash("a\n", "b\n", "c\n")}, false, "<<<<<<< ours\nb\n=======\nc\n>>>>>>> theirs\n", 7},
		{[]api.Part{clash("========\n", "b\n", "")}, false, "<<<<<<<<< ours\nb\n=========\n>>>>>>>>> theirs\n", 9},
		{[]api.Part{clash("", "", "x\n>>>>>>>>")}, false, "<<<<<<<<< ours\n=========\nx\n>>>>>>>>\n>>>>>>>>>! theirs\n", 9},
		{[]api.Part{plain("|||||||\n"), clash("", "", "")}, true, "|||||||\n<<<<<<<< ours\n|||||||| base\n========\n>>>>>>>> theirs\n", 8},
		{[]api.Part{{O: "", A: "", B: "<<<<<<<<<<\n"}, clash("", "", "")}, false, "<<<<<<<<<<< ours\n===========\n>>>>>>>>>>> theirs\n", 11},
	} {
		if got, n := marker.Show(c.l, c.old); got != c.want || n != c.n {
			t.Errorf("Show(%v, %t) = %q, %d, want %q, %d", c.l, c.old, got, n, c.want, c.n)
		}
	}
}

// text returns some lines, of which some look like marker lines.
func text(r *rand.Rand, whole bool) string {
	s := ""
	for range r.Intn(4) {
		s += []string{"a", "<<<<<<<", "======= ", "|||||||| base", ">>>>>>> theirs", "<<<<<<< ours", "", ">>>>>>>>!"}[r.Intn(8)] + "\n"
	}
	if !whole && r.Intn(2) == 0 {
		s += "b"
	}
	return s
}

// P9.4
func TestRandom(t *testing.T) {
	r := rand.New(rand.NewSource(11))
	for range 5000 {
		var l []api.Part
		for range r.Intn(5) {
			s := text(r, true)
			if n := len(l); s != "" && r.Intn(2) == 0 && (n == 0 || l[n-1].Clash) {
				l = append(l, plain(s))
			} else {
				l = append(l, clash(text(r, false), text(r, false), text(r, false)))
			}
		}
		if n := len(l); n == 0 || l[n-1].Clash {
			l = append(l, plain("end"))
		}
		s, n := marker.Show(l, true)
		if got, e := marker.Parse(s, n); e != api.OK || !slices.Equal(got, l) {
			t.Fatalf("%v is shown as %q, and parsed as %v, %d", l, s, got, e)
		}
		s, n = marker.Show(l, false)
		for i := range l {
			if l[i].Clash {
				l[i].O = ""
			}
		}
		if got, e := marker.Parse(s, n); e != api.OK || !slices.Equal(got, l) {
			t.Fatalf("%v is shown without base as %q, and parsed as %v, %d", l, s, got, e)
		}
	}
}
