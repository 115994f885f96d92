package cells_test

import (
	"fmt"
	"math/rand"
	"slices"
	"strings"
	"testing"

	"concordat/api"
	"concordat/cells"
	"concordat/diff3"
	"concordat/weave"
)

func seg(key, text string) api.Segment { return api.Segment{Key: key, Text: text} }

// segs returns the segments of a text like "k=v l=w".
func segs(s string) []api.Segment {
	var l []api.Segment
	for _, part := range strings.Fields(s) {
		key, text, _ := strings.Cut(part, "=")
		l = append(l, seg(key, text))
	}
	return l
}

// show prints segments and conflicts.
func show(l []api.Segment, bad []api.Conflict) string {
	var out []string
	for _, s := range l {
		out = append(out, s.Key+"="+s.Text)
	}
	for _, c := range bad {
		out = append(out, fmt.Sprint(c.Kind)+":"+c.Key)
	}
	return strings.Join(out, " ")
}

// P30.1
func TestThree(t *testing.T) {
	for _, c := range []struct {
		o, a, b string // "-": does not exist
		text    string
		is      bool
		kind    int
	}{
		{"x", "x", "x", "x", true, 0},
		{"-", "-", "-", "", false, 0},
		{"x", "-", "-", "", false, 0},
		{"x", "y", "y", "y", true, 0},
		{"-", "y", "y", "y", true, 0},
		{"x", "x", "y", "y", true, 0},
		{"x", "y", "x", "y", true, 0},
		{"x", "x", "-", "", false, 0},
		{"x", "-", "x", "", false, 0},
		{"-", "x", "-", "x", true, 0},
		{"-", "-", "x", "x", true, 0},
		{"x", "y", "-", "", false, api.InGone},
		{"x", "-", "y", "", false, api.InGone},
		{"", "-", "y", "", false, api.InGone},
		{"", "y", "-", "", false, api.InGone},
		// What is empty exists, what does not exist is empty.
		{"", "-", "", "", false, 0},
		{"-", "", "-", "", true, 0},
		{"-", "", "x", "x", true, 0},
		{"-", "x", "", "x", true, 0},
		{"", "", "-", "", false, 0},
		{"x", "", "", "", true, 0},
		{"", "", "", "", true, 0},
		{"x", "", "-", "", false, api.InGone},
		// By tokens, by lines, and not at all.
		{"a=b+c;", "x=b+c;", "a=b+d;", "x=b+d;", true, 0},
		{"&\n1\n2\n", "#\n1\n2\n", "&\n1\n3\n", "#\n1\n3\n", true, 0},
		{"x", "y", "z", "", false, api.InText},
		{"-", "x", "y", "", false, api.InText},
		{"-", "a b", "a c", "", false, api.InText},
	} {
		var l [3]api.Segment
		var there [3]bool
		for i, s := range []string{c.o, c.a, c.b} {
			l[i], there[i] = seg("key", s), s != "-"
		}
		if text, is, kind := cells.Three(l[0], l[1], l[2], there); text != c.text || is != c.is || kind != c.kind {
			t.Errorf("Three(%q, %q, %q) = %q, %t, %d, want %q, %t, %d", c.o, c.a, c.b, text, is, kind, c.text, c.is, c.kind)
		}
	}
}

// three is what P30.1 says, case by case.
func three(o, a, b string, there [3]bool) (string, bool, int) {
	for i, s := range []*string{&o, &a, &b} {
		if !there[i] {
			*s = ""
		}
	}
	switch {
	case there[1] == there[2] && a == b, there[2] == there[0] && b == o && (there[1] != there[0] || a != o):
		return a, there[1], 0
	case there[1] == there[0] && a == o:
		return b, there[2], 0
	case !there[1] || !there[2]:
		return "", false, api.InGone
	}
	if text, is := weave.Text(o, a, b); is {
		return text, true, 0
	}
	return "", false, api.InText
}

// P30.1: texts of segments that don't exist count as empty, whatever they are.
func TestAllThree(t *testing.T) {
	texts := []string{"", "a", "b", "a b", "a\n"}
	for _, o := range texts {
		for _, a := range texts {
			for _, b := range texts {
				for bits := range 8 {
					there := [3]bool{bits&1 != 0, bits&2 != 0, bits&4 != 0}
					text, is, kind := cells.Three(seg("k", o), seg("l", a), seg("m", b), there)
					wantText, wantIs, wantKind := three(o, a, b, there)
					if text != wantText || is != wantIs || kind != wantKind {
						t.Errorf("Three(%q, %q, %q, %v) = %q, %t, %d", o, a, b, there, text, is, kind)
					}
				}
			}
		}
	}
}

// P30.2
func TestTexts(t *testing.T) {
	for _, c := range []struct{ o, a, b, want string }{
		{"", "", "", ""},
		{"k=1 l=2", "k=1 l=2", "k=1 l=2", "k=1 l=2"},
		{"k=1 l=2", "l=2 k=1", "k=1 l=3", "l=3 k=1"},
		{"k=1 l=2 m=3", "n=4", "o=5 k=1 m=3", "n=4 o=5"},
		{"k=1 l=2", "m=3 k=1", "l=4 k=1", "m=3 k=1 3:l"},
		{"k=1 l=1 m=1", "m=2 l=2", "k=2 l=3 m=1", "m=2 1:l 3:k"},
		{"k=1 k=2", "k=3 k=4", "k=1 k=5", "k=3"},
		{"k=1 k=2", "k=1 k=3", "k=1 k=4", "k=1"},
		{"", "a=1 b=2", "b=2 c=3 a=4", "b=2 c=3 1:a"},
		{"=1", "=2", "=1", "=2"},
	} {
		o, a, b := segs(c.o), segs(c.a), segs(c.b)
		got := show(cells.Texts(o, a, b))
		if got != c.want {
			t.Errorf("Texts(%q, %q, %q) = %q, want %q", c.o, c.a, c.b, got, c.want)
		}
		if show(o, nil) != c.o || show(a, nil) != c.a || show(b, nil) != c.b {
			t.Error("an argument was changed")
		}
	}
}

// P30.3
func TestOrder(t *testing.T) {
	for _, c := range []struct {
		o, a, b, want string
		is            bool
	}{
		{"", "", "", "", true},
		{"f g", "f h g", "g", "h g", true},
		{"f g", "f g", "g x f", "g x f", true},
		{"f g", "g x f", "f g", "g x f", true},
		{"f g", "g f", "g f", "g f", true},
		{"f g h", "g h", "f g", "g", true},
		{"f g h", "f x g h", "f g y h", "f x g y h", true},
		// Both add at one place: the left side comes first.
		{"f g", "f x g", "f y g", "f x y g", true},
		{"f", "f x y", "f y z", "f x y z", true},
		{"f", "f x y", "f z y x", "f x y z", true},
		{"", "a b", "c b", "a b c", true},
		{"f", "x", "y", "x y", true},
		// Both move the same key, to different places.
		{"f g h", "g f h", "f h g", "", false},
		{"a b c", "b c a", "b a c", "", false},
		// Each moves a key, with too little between them, and with enough.
		{"a b c d", "b a c d", "a b d c", "", false},
		{"a b x c d", "b a x c d", "a b x d c", "b a x d c", true},
		// A key that both add at different places.
		{"f g", "f x g", "f g x", "", false},
		{"f g", "x f g", "x f y g", "x f y g", true},
		// Only the first occurrence of a key counts.
		{"f g f", "f g g", "f g", "f g", true},
		{"f g", "f h f g", "g f g", "", false},
		{"f", "f f", "g g f g", "g f", true},
		{"f g", "f g f", "f g g x x", "f g x", true},
	} {
		o, a, b := strings.Fields(c.o), strings.Fields(c.a), strings.Fields(c.b)
		got, is := cells.Order(o, a, b)
		want, wanted := order(o, a, b)
		if !slices.Equal(got, want) || is != wanted {
			t.Errorf("Order(%q, %q, %q) = %q, %t, want %q, %t", c.o, c.a, c.b, got, is, want, wanted)
		}
		if strings.Join(got, " ") != c.want || is != c.is {
			t.Errorf("Order(%q, %q, %q) = %q, %t, want %q, %t", c.o, c.a, c.b, got, is, c.want, c.is)
		}
	}
}

// unique keeps the first occurrences.
func unique(l []string) []string {
	var out []string
	for _, s := range l {
		if !slices.Contains(out, s) {
			out = append(out, s)
		}
	}
	return out
}

// order is what P30.3 says, step by step.
func order(o, a, b []string) ([]string, bool) {
	o, a, b = unique(o), unique(a), unique(b)
	if slices.Equal(b, o) {
		return a, true
	}
	if slices.Equal(a, o) {
		return b, true
	}
	removed := func(s string) bool {
		return slices.Contains(o, s) && (!slices.Contains(a, s) || !slices.Contains(b, s))
	}
	k, l, m := slices.DeleteFunc(slices.Clone(o), removed), slices.DeleteFunc(slices.Clone(a), removed), slices.DeleteFunc(slices.Clone(b), removed)
	var out []string
	for _, c := range diff3.Parts(k, l, m) {
		x, y := l[c.A.From:c.A.To], m[c.B.From:c.B.To]
		switch c.Kind {
		case api.Right:
			out = append(out, y...)
		case api.Clash:
			if c.O.From != c.O.To {
				return nil, false
			}
			out = append(out, x...)
			for _, s := range y {
				if !slices.Contains(x, s) {
					out = append(out, s)
				}
			}
		default:
			out = append(out, x...)
		}
	}
	if len(unique(out)) != len(out) {
		return nil, false
	}
	return out, true
}

// words returns some keys, of which one may occur twice.
func words(r *rand.Rand) []string {
	var out []string
	for _, i := range r.Perm(6)[:r.Intn(7)] {
		out = append(out, string(rune('a'+i)))
	}
	if len(out) > 0 && r.Intn(5) == 0 {
		out = append(out, out[r.Intn(len(out))])
	}
	return out
}

// changed returns keys with some left out, moved or added.
func changed(r *rand.Rand, l []string) []string {
	out := slices.Clone(l)
	for range r.Intn(4) {
		switch {
		case len(out) > 0 && r.Intn(3) == 0:
			out = slices.Delete(out, 0, 1)
		case len(out) > 1 && r.Intn(3) == 0:
			i, k := r.Intn(len(out)), r.Intn(len(out))
			out[i], out[k] = out[k], out[i]
		default:
			out = slices.Insert(out, r.Intn(len(out)+1), string(rune('a'+r.Intn(9))))
		}
	}
	return out
}

// P30.3, P30.4, P30.5
func TestRandom(t *testing.T) {
	r := rand.New(rand.NewSource(21))
	text := func(l []string) []api.Segment {
		var out []api.Segment
		for _, key := range l {
			out = append(out, seg(key, []string{"1", "1", "1", "2", "x y", "x z"}[r.Intn(6)]))
		}
		return out
	}
	failed := 0
	for range 5000 {
		ko := words(r)
		o, a, b := text(ko), text(changed(r, ko)), text(changed(r, ko))
		keys := func(l []api.Segment) []string {
			var out []string
			for _, s := range l {
				out = append(out, s.Key)
			}
			return out
		}
		got, is := cells.Order(keys(o), keys(a), keys(b))
		want, wanted := order(keys(o), keys(a), keys(b))
		if !slices.Equal(got, want) || is != wanted {
			t.Fatalf("Order(%q, %q, %q) = %q, %t, want %q", keys(o), keys(a), keys(b), got, is, want)
		}
		l, bad := cells.Texts(o, a, b)
		row, worse := cells.Row(o, a, b)
		arranged := slices.Clone(l)
		if is {
			slices.SortStableFunc(arranged, func(x, y api.Segment) int {
				i, k := slices.Index(got, x.Key), slices.Index(got, y.Key)
				if i < 0 {
					i = len(got)
				}
				if k < 0 {
					k = len(got)
				}
				return i - k
			})
		} else {
			failed++
			bad = append(bad, api.Conflict{Kind: api.InOrder})
		}
		if !slices.Equal(row, arranged) || !slices.Equal(worse, bad) {
			t.Fatalf("Row(%v, %v, %v) = %s, want %s", o, a, b, show(row, worse), show(arranged, bad))
		}
		// Exchanged sides have the same conflicts.
		_, other := cells.Row(o, b, a)
		slices.SortFunc(other, func(x, y api.Conflict) int { return strings.Compare(fmt.Sprint(x), fmt.Sprint(y)) })
		slices.SortFunc(worse, func(x, y api.Conflict) int { return strings.Compare(fmt.Sprint(x), fmt.Sprint(y)) })
		if !slices.Equal(other, worse) {
			t.Fatalf("Row(%v, %v, %v): %v, and exchanged %v", o, a, b, worse, other)
		}
	}
	if failed == 0 {
		t.Error("no order failed")
	}
}

// P30.4
func TestRow(t *testing.T) {
	for _, c := range []struct{ o, a, b, want string }{
		{"", "", "", ""},
		{"f=1 g=2", "f=1 h=3 g=2", "g=2", "h=3 g=2"},
		{"f=1 g=2", "g=2 f=3", "f=1 g=4", "g=4 f=3"},
		{"f=1 g=2 h=3", "g=2 f=1 h=3", "f=1 h=3 g=2", "g=2 f=1 h=3 2:"},
		{"f=1", "f=2", "f=3", "1:f"},
		{"f=1 g=1", "f=2 g=1 h=1", "f=3 g=1", "g=1 h=1 1:f"},
		{"f=1 g=2", "f=3 g=2", "g=2", "g=2 3:f"},
		{"f=1 g=2 h=3", "g=4 f=5 h=3", "f=6 h=3 g=2", "g=4 h=3 1:f 2:"},
	} {
		if got := show(cells.Row(segs(c.o), segs(c.a), segs(c.b))); got != c.want {
			t.Errorf("Row(%q, %q, %q) = %q, want %q", c.o, c.a, c.b, got, c.want)
		}
	}
}

// P30.5: if one side equals the base, the result is the other side.
func TestOneSide(t *testing.T) {
	r := rand.New(rand.NewSource(22))
	for range 500 {
		var o, b []api.Segment
		for _, i := range r.Perm(6)[:r.Intn(7)] {
			o = append(o, seg(string(rune('a'+i)), "1"))
		}
		for _, i := range r.Perm(6)[:r.Intn(7)] {
			b = append(b, seg(string(rune('a'+i)), fmt.Sprint(r.Intn(2))))
		}
		for i, l := range [][3][]api.Segment{{o, o, b}, {o, b, o}, {o, b, b}} {
			if got, bad := cells.Row(l[0], l[1], l[2]); !slices.Equal(got, b) || len(bad) != 0 {
				t.Fatalf("case %d: Row(%v, %v) = %s", i, o, b, show(got, bad))
			}
		}
	}
}

// Rule 4: results are in new memory.
func TestNewMemory(t *testing.T) {
	o, a := []string{"x"}, append(make([]string, 0, 5), "x", "y")
	got, _ := cells.Order(o, a, o)
	got[0] = "changed"
	if !slices.Equal(a[:5], []string{"x", "y", "", "", ""}) {
		t.Errorf("%q", a[:5])
	}
	l := append(make([]api.Segment, 0, 5), seg("k", "1"))
	row, _ := cells.Row(l, l, l)
	row[0].Text = "changed"
	if l[0].Text != "1" || l[:2][1] != seg("", "") {
		t.Errorf("%v", l[:2])
	}
}
