package report_test

import (
	"slices"
	"strings"
	"testing"

	"concordat/api"
	"concordat/report"
)

// P33.1
func TestConflict(t *testing.T) {
	words := []string{"", "text", "order", "gone", "replay", "types"}
	for kind := -1; kind < 8; kind++ {
		word := ""
		if kind > 0 && kind < 6 {
			word = words[kind]
		}
		for _, key := range []string{"", "A.m()", " ", "a b", "text", "x ", " x", "\t", "é", "rename A.f to g", "a\nb", "\n"} {
			c := api.Conflict{Kind: kind, Key: key}
			want := word
			if word != "" && key != "" {
				want += " " + key
			}
			got := report.Conflict(c)
			if got != want {
				t.Errorf("Conflict(%v) = %q, want %q", c, got, want)
			}
			back, is := report.Read(got)
			if readable := word != "" && !strings.Contains(key, "\n"); is != readable || is && back != c || !is && back != (api.Conflict{}) {
				t.Errorf("Read(%q) = %v, %t", got, back, is)
			}
		}
	}
	if got := report.Conflict(api.Conflict{Kind: api.InGone, Key: "A.m()"}); got != "gone A.m()" {
		t.Errorf("%q", got)
	}
}

// P33.1
func TestRead(t *testing.T) {
	for s, want := range map[string]api.Conflict{
		"text": {Kind: api.InText}, "types a": {Kind: api.InTypes, Key: "a"}, "order  ": {Kind: api.InOrder, Key: " "}, "gone  x": {Kind: api.InGone, Key: " x"}, "replay a b ": {Kind: api.InReplay, Key: "a b "}, "text\t": {}, "text text": {Kind: api.InText, Key: "text"},
		"": {}, " ": {}, "text ": {}, "Text": {}, "texts": {}, "tex": {}, " text": {}, "text\n": {}, "gone a\n": {}, "gone \n": {}, "x": {}, "x y": {}, "textA": {}, "merged": {},
	} {
		if c, is := report.Read(s); c != want || is != (want.Kind != 0) {
			t.Errorf("Read(%q) = %v, %t, want %v", s, c, is, want)
		}
	}
}

// P33.2
func TestOutcome(t *testing.T) {
	for kind, want := range map[int]string{api.Merged: "merged", api.Conflicts: "conflicts", api.Textual: "textual", api.TooLarge: "too large", 0: "", 5: "", -1: ""} {
		if got := report.Outcome(kind); got != want {
			t.Errorf("Outcome(%d) = %q, want %q", kind, got, want)
		}
	}
}

// P33.2
func TestCount(t *testing.T) {
	kinds := func(l ...int) []api.Conflict {
		var out []api.Conflict
		for _, k := range l {
			out = append(out, api.Conflict{Kind: k, Key: "x"})
		}
		return out
	}
	for _, c := range []struct {
		l    []api.Conflict
		want []int
	}{
		{nil, []int{0, 0, 0, 0, 0}},
		{kinds(1, 2, 3, 4, 5), []int{1, 1, 1, 1, 1}},
		{kinds(5, 1, 5, 3, 5), []int{1, 0, 1, 0, 3}},
		{kinds(0, 6, -1, 2, 1<<62), []int{0, 1, 0, 0, 0}},
	} {
		got := report.Count(c.l)
		if !slices.Equal(got, c.want) {
			t.Errorf("Count(%v) = %v, want %v", c.l, got, c.want)
		}
		got[0] = 77
		if again := report.Count(c.l); !slices.Equal(again, c.want) {
			t.Error("two results share memory")
		}
	}
}

// P33.3
func TestText(t *testing.T) {
	left := []api.Request{{Kind: api.Rename, Id: "A.f", To: "g"}, {Kind: api.MoveClass, Id: "A", To: "x"}}
	right := []api.Request{{Kind: api.MoveMember, Id: "A.s", To: "B"}, {}}
	bad := []api.Conflict{{Kind: api.InText, Key: "A.m()"}, {Kind: api.InOrder}, {Kind: 9, Key: "x"}}
	for _, c := range []struct {
		kind        int
		left, right []api.Request
		bad         []api.Conflict
		want        string
	}{
		{api.Merged, nil, nil, nil, "merged\n"},
		{0, nil, nil, nil, "\n"},
		{api.TooLarge, nil, nil, nil, "too large\n"},
		{api.Conflicts, left, right, bad, "conflicts\nleft: rename A.f to g\nleft: move-class A to x\nright: move-member A.s to B\nright: \nconflict: text A.m()\nconflict: order\nconflict: \n"},
		{api.Textual, right, nil, bad[:1], "textual\nleft: move-member A.s to B\nleft: \nconflict: text A.m()\n"},
		{7, nil, left[:1], nil, "\nright: rename A.f to g\n"},
	} {
		if got := report.Text(c.kind, c.left, c.right, c.bad); got != c.want {
			t.Errorf("Text = %q, want %q", got, c.want)
		}
	}
}

// P33.4
func TestConsequence(t *testing.T) {
	for kind := api.InText; kind <= api.InTypes; kind++ {
		for _, key := range []string{"", " ", "a", "text", "gone x", "  ", "\x00\xff"} {
			c := api.Conflict{Kind: kind, Key: key}
			if got, is := report.Read(report.Conflict(c)); got != c || !is {
				t.Errorf("%v is read as %v, %t", c, got, is)
			}
		}
	}
}
