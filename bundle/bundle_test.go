package bundle_test

import (
	"math/rand"
	"reflect"
	"slices"
	"strings"
	"testing"

	"concordat/api"
	"concordat/archive"
	"concordat/bundle"
	"concordat/tool"
)

func file(path, text string) api.File { return api.File{Path: path, Text: text} }

// same reports whether two bundles are the same.
func same(a, b bundle.Bundle) bool {
	return slices.Equal(a.O, b.O) && slices.Equal(a.A, b.A) && slices.Equal(a.B, b.B) && a.Old == b.Old
}

// P36.1
func TestShowAndRead(t *testing.T) {
	for _, c := range []struct {
		b    bundle.Bundle
		want string
	}{
		{bundle.Bundle{}, "merge\nbase 0\nours 0\ntheirs 0\n"},
		{bundle.Bundle{Old: true}, "diff3\nbase 0\nours 0\ntheirs 0\n"},
		{bundle.Bundle{O: []api.File{file("a", "x")}, A: []api.File{file("a", ""), file("b", "1\n2\n")}, Old: true}, "diff3\nbase 1\nfile a 1!\nx\nours 2\nfile a 0\nfile b 2\n1\n2\ntheirs 0\n"},
		{bundle.Bundle{B: []api.File{file("z", "base 0\n"), file("a", "theirs 0")}}, "merge\nbase 0\nours 0\ntheirs 2\nfile z 1\nbase 0\nfile a 1!\ntheirs 0\n"},
	} {
		if got := bundle.Show(c.b); got != c.want {
			t.Errorf("Show(%v) = %q, want %q", c.b, got, c.want)
		}
		if got, e := bundle.Read(c.want); !same(got, c.b) || e != api.OK {
			t.Errorf("Read(%q) = %v, %d", c.want, got, e)
		}
	}
	// What can be shown, but not read.
	b := bundle.Bundle{O: []api.File{file("a b", "x")}}
	if got := bundle.Show(b); got != "merge\nbase 1\nfile a b 1!\nx\nours 0\ntheirs 0\n" {
		t.Errorf("Show(%v) = %q", b, got)
	}
	if got, e := bundle.Read(bundle.Show(b)); !reflect.DeepEqual(got, bundle.Bundle{}) || e != api.ErrArchive {
		t.Errorf("Read = %v, %d", got, e)
	}
}

// wrong are texts that are no bundles.
var wrong = []string{
	"", "\n", "merge", "merge\n", "Merge\nbase 0\nours 0\ntheirs 0\n", "diff\nbase 0\nours 0\ntheirs 0\n", "base 0\nours 0\ntheirs 0\n", " merge\nbase 0\nours 0\ntheirs 0\n", "merge \nbase 0\nours 0\ntheirs 0\n", "merge\n\nbase 0\nours 0\ntheirs 0\n", "merge\r\nbase 0\nours 0\ntheirs 0\n",
	"merge\nbase 0\nours 0\ntheirs 0", "merge\nbase 0\nours 0\n", "merge\nbase 0\nours 0\ntheirs 0\n\n", "merge\nbase 0\nours 0\ntheirs 0\nx", "merge\nbase 0\nours 0\ntheirs 0\nfiles 0\n",
	"merge\nours 0\nbase 0\ntheirs 0\n", "merge\nbase 0\ntheirs 0\nours 0\n", "merge\nbase 0\nbase 0\ntheirs 0\n",
	"merge\nbase 00\nours 0\ntheirs 0\n", "merge\nbase +0\nours 0\ntheirs 0\n", "merge\nbase -0\nours 0\ntheirs 0\n", "merge\nbase -1\nours 0\ntheirs 0\n", "merge\nbase  0\nours 0\ntheirs 0\n", "merge\nbase\nours 0\ntheirs 0\n", "merge\nbase \nours 0\ntheirs 0\n", "merge\nbase x\nours 0\ntheirs 0\n", "merge\nbase 0 \nours 0\ntheirs 0\n", "merge\nbase 0!\nours 0\ntheirs 0\n",
	"merge\nbase 1\nours 0\ntheirs 0\n", "merge\nbase 0\nfile a 0\nours 0\ntheirs 0\n", "merge\nbase 2\nfile a 0\nours 0\ntheirs 0\n", "merge\nbase 1\nfile a 1\nours 0\ntheirs 0\n", "merge\nbase 1\nfile - 0\nours 0\ntheirs 0\n", "merge\nbase 0\nours 1\nfile a 01\nx\ntheirs 0\n", "merge\nbase 0\nours 0\ntheirs 1\nfile a 1!\nx",
	"merge\nbase 99999999999999999999\nours 0\ntheirs 0\n",
}

// P36.1, P36.2
func TestWrong(t *testing.T) {
	for _, s := range wrong {
		if got, e := bundle.Read(s); !reflect.DeepEqual(got, bundle.Bundle{}) || e != api.ErrArchive {
			t.Errorf("Read(%q) = %v, %d", s, got, e)
		}
		if got, e := bundle.Run(s); got != "" || e != api.ErrArchive {
			t.Errorf("Run(%q) = %q, %d", s, got, e)
		}
	}
}

// P36.2
func TestRun(t *testing.T) {
	for _, c := range []struct {
		b    bundle.Bundle
		want string
	}{
		{bundle.Bundle{}, "merged\nfiles 0\n"},
		{bundle.Bundle{O: []api.File{file("a", "class A{int f;}")}, A: []api.File{file("a", "class A{int g;}")}, B: []api.File{file("a", "class A{int f;int m(){return f;}}")}},
			"merged\nleft: rename A.f to g\nfiles 1\nfile a 1!\nclass A{int g;int m(){return g;}}\n"},
		{bundle.Bundle{O: []api.File{file("a", "1\n")}, A: []api.File{file("a", "2\n"), file("b", "")}, B: []api.File{file("a", "3\n")}},
			"textual\nconflict: text a\nfiles 2\nfile a 5\n<<<<<<< ours\n2\n=======\n3\n>>>>>>> theirs\nfile b 0\n"},
		{bundle.Bundle{O: []api.File{file("a", "1\n")}, A: []api.File{file("a", "2\n")}, B: []api.File{file("a", "3\n")}, Old: true},
			"textual\nconflict: text a\nfiles 1\nfile a 7\n<<<<<<< ours\n2\n||||||| base\n1\n=======\n3\n>>>>>>> theirs\n"},
		{bundle.Bundle{O: []api.File{file("b", ""), file("a", "")}}, "textual\nfiles 0\n"},
		{bundle.Bundle{O: []api.File{file("a", strings.Repeat(" ", api.MaxText+1))}}, "too large\nfiles 0\n"},
	} {
		got, e := bundle.Run(bundle.Show(c.b))
		if got != c.want || e != api.OK {
			t.Errorf("Run of %.200q = %q, %d, want %q", bundle.Show(c.b), got, e, c.want)
		}
		x := tool.Run(c.b.O, c.b.A, c.b.B, c.b.Old)
		if files, e := bundle.Files(got); !slices.Equal(files, x.Files) || e != api.OK {
			t.Errorf("Files(%q) = %q, %d", got, files, e)
		}
	}
}

// P36.2
func TestFiles(t *testing.T) {
	for _, c := range []struct {
		s    string
		want []api.File
		e    api.Errno
	}{
		{"files 0\n", nil, api.OK},
		{"merged\nfiles 0\n", nil, api.OK},
		{"anything\n files 7\nxfiles 1\nfiles\n\nfiles 1\nfile a 1\nx\n", []api.File{file("a", "x\n")}, api.OK},
		{"files 1\nfile a 1\nfiles 3\n", []api.File{file("a", "files 3\n")}, api.OK},
		{"files 2\nfile b 0\nfile a 1!\nx\n", []api.File{file("b", ""), file("a", "x")}, api.OK},
		{"", nil, api.ErrArchive},
		{"merged\n", nil, api.ErrArchive},
		{"files", nil, api.ErrArchive},
		{"files\n", nil, api.ErrArchive},
		{"files 0", nil, api.ErrArchive},
		{"merged\nfiles 0", nil, api.ErrArchive},
		{"files 0\nx", nil, api.ErrArchive},
		{"files 0\n\n", nil, api.ErrArchive},
		{"files 0\nfile a 0\n", nil, api.ErrArchive},
		{"files 1\n", nil, api.ErrArchive},
		{"files 1\nfile a 0\nfile b 0\n", nil, api.ErrArchive},
		{"files 1\nfile a 2\nx\n", nil, api.ErrArchive},
		{"files 01\nfile a 0\n", nil, api.ErrArchive},
		{"files x\n", nil, api.ErrArchive},
		{"files  0\n", nil, api.ErrArchive},
		{"files -1\n", nil, api.ErrArchive},
		{"files \n", nil, api.ErrArchive},
		{"Files 0\n", nil, api.ErrArchive},
		{" files 0\n", nil, api.ErrArchive},
		// The first line that begins with the word counts, even if another one were right.
		{"files x\nfiles 0\n", nil, api.ErrArchive},
		{"files 0 \nfiles 0\n", nil, api.ErrArchive},
		{"a\nfiles 1\nfiles 0\n", nil, api.ErrArchive},
	} {
		if got, e := bundle.Files(c.s); !slices.Equal(got, c.want) || e != c.e {
			t.Errorf("Files(%q) = %q, %d, want %q, %d", c.s, got, e, c.want, c.e)
		}
	}
}

// P36.3
func TestConsequence(t *testing.T) {
	r := rand.New(rand.NewSource(25))
	tree := func() []api.File {
		var l []api.File
		for _, path := range []string{"a", "b/c", "d"} {
			if r.Intn(2) == 0 {
				l = append(l, file(path, []string{"", "class A{}", "x\n", "files 0\n", "class A{int f;}\n"}[r.Intn(5)]))
			}
		}
		return l
	}
	for range 500 {
		b := bundle.Bundle{O: tree(), A: tree(), B: tree(), Old: r.Intn(2) == 0}
		s := bundle.Show(b)
		if got, e := bundle.Read(s); !same(got, b) || e != api.OK {
			t.Fatalf("%v is shown as %q, and read as %v, %d", b, s, got, e)
		}
		out, e := bundle.Run(s)
		x := tool.Run(b.O, b.A, b.B, b.Old)
		if e != api.OK || !strings.HasPrefix(out, tool.Text(x)+"files ") || !strings.HasSuffix(out, archive.Show(x.Files)) {
			t.Fatalf("Run(%q) = %q, %d", s, out, e)
		}
		if files, e := bundle.Files(out); !slices.Equal(files, x.Files) || e != api.OK {
			t.Fatalf("Files(%q) = %v, %d", out, files, e)
		}
	}
}
