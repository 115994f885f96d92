package archive_test

import (
	"math"
	"math/rand"
	"slices"
	"strings"
	"testing"

	"concordat/api"
	"concordat/archive"
)

func file(path, text string) api.File { return api.File{Path: path, Text: text} }

// P35.1
func TestHeadAndShow(t *testing.T) {
	for _, c := range []struct {
		f           api.File
		head, entry string
	}{
		{file("a", ""), "file a 0\n", "file a 0\n"},
		{file("a", "x"), "file a 1!\n", "file a 1!\nx\n"},
		{file("a", "x\n"), "file a 1\n", "file a 1\nx\n"},
		{file("a", "\n"), "file a 1\n", "file a 1\n\n"},
		{file("b/c.d", "x\n\ny"), "file b/c.d 3!\n", "file b/c.d 3!\nx\n\ny\n"},
		{file("a", "file b 1\nx\n"), "file a 2\n", "file a 2\nfile b 1\nx\n"},
		{file("a", " "), "file a 1!\n", "file a 1!\n \n"},
		{file("", "x"), "file  1!\n", "file  1!\nx\n"},
		{file("a b\n", ""), "file a b\n 0\n", "file a b\n 0\n"},
		{file("a", strings.Repeat("\n", 100)), "file a 100\n", "file a 100\n" + strings.Repeat("\n", 100)},
	} {
		if got := archive.Head(c.f); got != c.head {
			t.Errorf("Head(%q) = %q, want %q", c.f, got, c.head)
		}
		if got := archive.Show([]api.File{c.f}); got != c.entry {
			t.Errorf("Show(%q) = %q, want %q", c.f, got, c.entry)
		}
	}
	if got := archive.Show([]api.File{file("b", "x"), file("a", ""), file("b", "y\n")}); got != "file b 1!\nx\nfile a 0\nfile b 1\ny\n" {
		t.Errorf("Show = %q", got)
	}
	if got := archive.Show(nil); got != "" {
		t.Errorf("Show of nothing = %q", got)
	}
}

// P35.2
func TestRead(t *testing.T) {
	for _, c := range []struct {
		s    string
		many int
		want []api.File
		rest string
	}{
		{"", 0, nil, ""},
		{"x", 0, nil, "x"},
		{"file a 0\n", 0, nil, "file a 0\n"},
		{"file a 0\n", 1, []api.File{file("a", "")}, ""},
		{"file a 0\nx", 1, []api.File{file("a", "")}, "x"},
		{"file a 1!\nx\n", 1, []api.File{file("a", "x")}, ""},
		{"file a 1!\nx\nfile b 0\nfile", 1, []api.File{file("a", "x")}, "file b 0\nfile"},
		{"file a 1!\nx\nfile b 0\nfile", 2, []api.File{file("a", "x"), file("b", "")}, "file"},
		{"file b 1\n\nfile a 2!\n\n \nfile b 0\n", 3, []api.File{file("b", "\n"), file("a", "\n "), file("b", "")}, ""},
		{"file a 2\nfile b 1\nx\n", 1, []api.File{file("a", "file b 1\nx\n")}, ""},
	} {
		if got, rest, e := archive.Read(c.s, c.many); !slices.Equal(got, c.want) || rest != c.rest || e != api.OK {
			t.Errorf("Read(%q, %d) = %q, %q, %d, want %q, %q", c.s, c.many, got, rest, e, c.want, c.rest)
		}
		got, e := archive.Whole(c.s)
		if whole := c.rest == ""; whole != (e == api.OK) && c.many > 0 || whole && !slices.Equal(got, c.want) {
			t.Errorf("Whole(%q) = %q, %d", c.s, got, e)
		}
	}
}

// wrong are texts that begin with no entry.
var wrong = []string{
	"x", "\n", "file", "file\n", "file a\n", "file a 0", "file a 0 \n", " file a 0\n", "file  a 0\n", "file a  0\n", "file a 0!\n", "file a !\n", "file a \n", "file a 00\n", "file a 01\nx\n", "file a +1\nx\n", "file a -1\nx\n", "file a -0\n", "file a 1_0\n", "file a 0x1\nx\n", "file a x\n", "file a 1\r\nx\n",
	"file a 1", "file a 1\n", "file a 1\nx", "file a 1!\n", "file a 1!\nx", "file a 2\nx\n", "file a 2!\nx\ny", "file a 9999999999\nx\n", "file a 99999999999999999999999\nx\n", "file a 9223372036854775807\nx\n",
	"file a 1!\n\n", "file a 2!\nx\n\n", "file a 1!!\nx\n", "file a 1! \nx\n", "file a 1\n!",
	"file / 0\n", "file  0\n", "file a b 0\n", "file /a 0\n", "file a/ 0\n", "file a-b 0\n", "file " + strings.Repeat("a", 25) + " 0\n", "File a 0\n", "files a 0\n", "filea 0\n", "file a\t0\n", "file é 0\n",
}

// P35.2
func TestWrong(t *testing.T) {
	for _, s := range wrong {
		for _, before := range []string{"", "file b 1!\nx\n", "file b 0\nfile c 1\n\n"} {
			if got, e := archive.Whole(before + s); len(got) != 0 || e != api.ErrArchive {
				t.Errorf("Whole(%q) = %q, %d", before+s, got, e)
			}
			many := strings.Count(before, "file") + 1
			if got, rest, e := archive.Read(before+s, many); len(got) != 0 || rest != "" || e != api.ErrArchive {
				t.Errorf("Read(%q, %d) = %q, %q, %d", before+s, many, got, rest, e)
			}
			if got, rest, e := archive.Read(before+s, many-1); len(got) != many-1 || rest != s || e != api.OK {
				t.Errorf("Read(%q, %d) = %q, %q, %d", before+s, many-1, got, rest, e)
			}
		}
	}
	for _, many := range []int{-1, math.MinInt} {
		if got, rest, e := archive.Read("file a 0\n", many); len(got) != 0 || rest != "" || e != api.ErrArchive {
			t.Errorf("Read of %d entries = %q, %q, %d", many, got, rest, e)
		}
	}
	for _, many := range []int{2, math.MaxInt} {
		if got, rest, e := archive.Read("file a 0\n", many); len(got) != 0 || rest != "" || e != api.ErrArchive {
			t.Errorf("Read of %d entries = %q, %q, %d", many, got, rest, e)
		}
	}
	if got, e := archive.Whole(""); len(got) != 0 || e != api.OK {
		t.Errorf("Whole of nothing = %q, %d", got, e)
	}
}

// P35.3
func TestConsequence(t *testing.T) {
	r := rand.New(rand.NewSource(24))
	for range 3000 {
		var l []api.File
		for range r.Intn(5) {
			text := ""
			for range r.Intn(5) {
				text += []string{"x", "\n", "file a 1\n", "!", " ", "\r", "\xff"}[r.Intn(7)]
			}
			l = append(l, file([]string{"a", "b/c", "x.y_z", strings.Repeat("q", 24)}[r.Intn(4)], text))
		}
		s := archive.Show(l)
		if got, e := archive.Whole(s); !slices.Equal(got, l) || e != api.OK {
			t.Fatalf("%q is shown as %q, and read as %q, %d", l, s, got, e)
		}
		if got, rest, e := archive.Read(s+"rest", len(l)); !slices.Equal(got, l) || rest != "rest" || e != api.OK {
			t.Fatalf("%q is shown as %q, and read as %q, %q, %d", l, s, got, rest, e)
		}
	}
}
