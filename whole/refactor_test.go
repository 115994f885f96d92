package whole_test

import (
	"math/rand"
	"slices"
	"strings"
	"testing"

	"concordat/api"
	"concordat/bind"
	"concordat/check"
	"concordat/decls"
	"concordat/family"
	"concordat/inline"
	"concordat/kin"
	"concordat/match"
	"concordat/merge"
	"concordat/names"
	"concordat/node"
	"concordat/print"
	"concordat/rename"
	"concordat/request"
	"concordat/run"
	"concordat/segment"
	"concordat/tool"
)

// Most of what is made at random is a program, and many of them do something.
func TestMaker(t *testing.T) {
	r := rand.New(rand.NewSource(100))
	good, lively := 0, 0
	ends := map[api.Errno]int{}
	for range 200 {
		l, _, is := tries(r)
		if !is {
			continue
		}
		good++
		x := ran(l)
		ends[x.E]++
		if len(x.Out) > 0 && x.Steps > 50 {
			lively++
		}
	}
	if good < 180 || lively < 50 || len(ends) < 4 {
		t.Errorf("%d programs, %d lively, ends %v", good, lively, ends)
	}
}

// each calls do for some random programs.
func each(t *testing.T, seed int64, many int, do func(r *rand.Rand, l []api.File, p program)) {
	t.Helper()
	r := rand.New(rand.NewSource(seed))
	for range many {
		if l, p, is := tries(r); is && !t.Failed() {
			do(r, l, p)
		}
	}
}

// P15.3, P16.5, P17.5, P23.4, P24.4, P28.3: consequences for programs.
func TestNames(t *testing.T) {
	each(t, 101, 60, func(r *rand.Rand, l []api.File, p program) {
		table, _ := check.Table(l)
		uses, _ := check.Uses(l)
		ids := map[string]bool{}
		for _, e := range table {
			if ids[e.Id] || !strings.HasPrefix(l[e.File].Text[e.At:], e.Name) {
				t.Errorf("%v", e)
			}
			ids[e.Id] = true
			if id, is := bind.At(uses, e.File, e.At); !is || id != e.Id {
				t.Errorf("%v is used as %q", e, id)
			}
			members := family.Of(table, e.Id)
			for _, id := range members {
				f, _ := decls.Find(table, id)
				if !slices.Equal(family.Of(table, id), members) || f.Name != e.Name || f.Type != e.Type && e.Kind == api.IsMethod || f.Static != e.Static || !slices.Equal(f.Params, e.Params) {
					t.Errorf("%v and %v are in one family", e, f)
				}
			}
		}
		for i, u := range uses {
			e, is := decls.Find(table, u.Id)
			if !is || !strings.HasPrefix(l[u.File].Text[u.At:], e.Name) || i > 0 && (uses[i-1].File > u.File || uses[i-1].File == u.File && uses[i-1].At >= u.At) {
				t.Errorf("%v", u)
			}
		}
		if kin.Check(table) != (api.Mistake{}) || len(kin.Order(table)) != len(p.classes) {
			t.Error("inheritance")
		}
		segments, _ := segment.All(l)
		keys := segment.Keys(segments)
		slices.Sort(keys)
		if len(slices.Compact(keys)) != len(segments) {
			t.Errorf("%q", keys)
		}
		// Spots have the scopes in which names refer to what they refer to.
		files, _ := check.Parse(l)
		for s, q := range names.Spots(table, files) {
			if e, errno := s.Entity(q.Node); e.Id != "" {
				if id, _ := bind.At(uses, q.File, q.Node.At); id != e.Id || errno != api.OK {
					t.Errorf("%v: %q", q.Node, id)
				}
			}
		}
	})
}

// P13.4, P22.5, P23.4: a program that is printed anew, in any order of its
// classes, is the same one.
func TestPrinted(t *testing.T) {
	each(t, 102, 60, func(r *rand.Rand, l []api.File, p program) {
		files, _ := check.Parse(l)
		var printed []api.File
		var classes []api.Node
		for i, f := range files {
			printed = append(printed, api.File{Path: l[i].Path, Text: print.File(f)})
			classes = append(classes, f...)
		}
		want, _ := check.Ids(l)
		if got, m := check.Ids(printed); m.Code != api.OK || !slices.Equal(got, want) {
			t.Errorf("%v: %v", printed, m)
		}
		again, _ := check.Parse(printed)
		for i := range files {
			if !slices.EqualFunc(files[i], again[i], node.Same) {
				t.Errorf("%v is parsed to something else", printed[i])
			}
		}
		r.Shuffle(len(classes), func(i, k int) { classes[i], classes[k] = classes[k], classes[i] })
		shuffled := []api.File{{Path: "x", Text: print.File(classes)}}
		x, y := ran(l), ran(shuffled)
		if !run.Same(x, y) || x.Steps != y.Steps {
			t.Errorf("%v: %v, shuffled %v", l, x, y)
		}
	})
}

// main reports whether an operation gives Main.main() another name.
func main(l []api.File, r api.Request) bool {
	return request.Id(l, r, "Main.main()") != "Main.main()"
}

// P25.4, P26.5, P27.5, Q3: renames and moves that are accepted change nothing
// of what a program does, and can be undone.
func TestRefactorings(t *testing.T) {
	done := map[int]int{}
	each(t, 103, 40, func(r *rand.Rand, l []api.File, p program) {
		table, _ := check.Table(l)
		want := ran(l)
		for range 12 {
			e := table[r.Intn(len(table))]
			q := api.Request{Kind: 1 + r.Intn(3), Id: e.Id}
			switch q.Kind {
			case api.Rename:
				q.To = []string{rename.Free(l, e.Name), table[r.Intn(len(table))].Name, "p0"}[r.Intn(3)]
			case api.MoveMember:
				statics := slices.DeleteFunc(slices.Clone(table), func(e api.Entity) bool { return !e.Static })
				q.Id, q.To = statics[r.Intn(len(statics))].Id, p.classes[r.Intn(len(p.classes))].name
			case api.MoveClass:
				q.Id, q.To = p.classes[r.Intn(len(p.classes))].name, []string{"a", "b", "c", "d"}[r.Intn(4)]
			}
			got, undo, errno := request.Do(l, q)
			free := q.Kind == api.Rename && q.To == rename.Free(l, e.Name)
			if errno != api.OK {
				if free && q.To != e.Name {
					t.Errorf("%v: %s is refused", l, request.Show(q))
				}
				continue
			}
			done[q.Kind]++
			if x := ran(got); !main(l, q) && (!run.Same(x, want) || x.Steps != want.Steps) {
				t.Errorf("%v: after %s %v, before %v", l, request.Show(q), x, want)
			}
			back, again, errno := request.Do(got, undo)
			if errno != api.OK || again != q {
				t.Errorf("%v: %s is undone by %s: %d", l, request.Show(q), request.Show(undo), errno)
			}
			if q.Kind == api.Rename && !slices.Equal(back, l) {
				t.Errorf("%v: %s is undone to %v", l, request.Show(q), back)
			}
			if x := ran(back); !run.Same(x, want) {
				t.Errorf("%v: after %s and back %v, before %v", l, request.Show(q), x, want)
			}
		}
	})
	if done[api.Rename] < 20 || done[api.MoveMember] < 10 || done[api.MoveClass] < 20 {
		t.Errorf("only %v were done", done)
	}
}

// P29.4: renames to free names are detected, and performing what was detected
// yields the same names.
func TestDetected(t *testing.T) {
	each(t, 104, 25, func(r *rand.Rand, l []api.File, p program) {
		if got := match.Detect(l, l); len(got) != 0 {
			t.Errorf("%v: %v", l, got)
		}
		table, _ := check.Table(l)
		for range 6 {
			e := table[r.Intn(len(table))]
			if e.Kind == api.IsLocal {
				continue
			}
			to := rename.Free(l, e.Name+"x")
			b, errno := rename.Do(l, e.Id, to)
			if errno != api.OK {
				t.Errorf("%v: %s to %s is refused", l, e.Id, to)
				continue
			}
			if got := match.Replay(l, b); !slices.Equal(got, b) {
				t.Errorf("%v: %s to %s is replayed as %v", l, e.Id, to, match.Detect(l, b))
			}
		}
	})
}

// Q3: a rename on one side, and any changes on the other one.
func TestRenameAndChanges(t *testing.T) {
	merged := 0
	each(t, 105, 25, func(r *rand.Rand, l []api.File, p program) {
		b := p.changed(r).tree()
		if check.Tree(b).Code != api.OK || len(match.Detect(l, b)) != 0 {
			return
		}
		table, _ := check.Table(l)
		for range 4 {
			e := table[r.Intn(len(table))]
			to := rename.Free(slices.Concat(l, b), e.Name+"z")
			a, errno := rename.Do(l, e.Id, to)
			if errno != api.OK || e.Kind == api.IsLocal {
				continue
			}
			x, y := tool.Run(l, a, b, false), tool.Run(l, b, a, false)
			if x.Kind != api.Merged || y.Kind != api.Merged {
				t.Errorf("%v: %s to %s on one side, %v on the other: %s", l, e.Id, to, b, tool.Text(x))
				continue
			}
			merged++
			mine, want := ran(x.Files), ran(b)
			if !run.Same(mine, want) && e.Id != "Main" && e.Id != "Main.main()" {
				t.Errorf("%v: %s to %s on one side, %v on the other: %v, want %v", l, e.Id, to, b, mine, want)
			}
		}
	})
	if merged < 25 {
		t.Errorf("only %d merges", merged)
	}
}

// side returns a side of a merge: some changes, renames and moves.
func side(r *rand.Rand, p program) []api.File {
	l := p.changed(r).tree()
	if check.Tree(l).Code != api.OK {
		l = p.tree()
	}
	table, _ := check.Table(l)
	for range r.Intn(5) {
		e := table[r.Intn(len(table))]
		q := api.Request{Kind: 1 + r.Intn(3), Id: e.Id, To: e.Name + "q"}
		if q.Kind == api.MoveMember {
			q.To = p.classes[r.Intn(len(p.classes))].name
		}
		l, _ = request.Some(l, []api.Request{q})
	}
	return l
}

// Q1, Q2, P31.5, P34.3: what comes of any three programs.
func TestMerges(t *testing.T) {
	kinds := map[int]int{}
	each(t, 106, 25, func(r *rand.Rand, o []api.File, p program) {
		a, b := side(r, p), side(r, p)
		x := tool.Run(o, a, b, false)
		kinds[x.Kind]++
		switch {
		case x.Kind == api.Merged && (check.Tree(x.Files).Code != api.OK || len(x.Bad) != 0),
			x.Kind == api.Conflicts && len(x.Bad) == 0,
			x.Kind != api.Merged && x.Kind != api.Conflicts:
			t.Errorf("%v, %v, %v: %v", o, a, b, x)
		}
		for i, l := range [][3][]api.File{{o, o, b}, {o, b, o}, {a, a, b}, {b, a, b}} {
			want := b
			if i == 3 {
				want = a
			}
			if x := tool.Run(l[0], l[1], l[2], true); x.Kind != api.Merged || !slices.Equal(x.Files, want) {
				t.Errorf("case %d of %v, %v, %v: %s", i, o, a, b, tool.Text(x))
			}
			if r := merge.Programs(l[0], l[1], l[2]); !slices.Equal(r.Tree, want) {
				t.Errorf("case %d of %v, %v, %v: %v", i, o, a, b, r)
			}
		}
	})
	if kinds[api.Merged] < 5 || kinds[api.Conflicts] < 2 {
		t.Errorf("%v", kinds)
	}
}

// P37.3: after inlining a program does the same in no more steps.
func TestInlined(t *testing.T) {
	done := 0
	each(t, 107, 150, func(r *rand.Rand, _ []api.File, p program) {
		m := &maker{Rand: r, p: p}
		x := &method{variable: variable{"q", m.kind(), true}, params: []variable{{name: "p0", kind: "int"}, {name: "p1", kind: m.kind()}}}
		m.class, m.method, m.seen = p.classes[r.Intn(len(p.classes))], x, x.params
		x.body = "    return " + m.expression(x.kind, 3) + ";\n"
		m.class.methods = append(m.class.methods, x)
		main := p.classes[0].methods[slices.IndexFunc(p.classes[0].methods, func(x *method) bool { return x.name == "main" })]
		call, kind, first := m.class.name+".q(j, k)", x.params[1].kind, "null"
		switch kind {
		case "int":
			first = "4"
		case "boolean":
			first = "true"
		}
		main.body = "    int j = 3;\n    " + kind + " k = " + first + ";\n    print(" + call + " == " + call + ");\n" + main.body
		l := p.tree()
		got, e := inline.Do(l, m.class.name+".q()")
		if e != api.OK {
			return
		}
		done++
		before, after := ran(l), ran(got)
		if before.E == api.ErrDepth || before.E == api.ErrFuel {
			return
		}
		if !run.Same(before, after) || after.Steps > before.Steps {
			t.Errorf("%v: %v, inlined %v: %v", l, before, got, after)
		}
	})
	if done < 30 {
		t.Errorf("only %d methods were inlined", done)
	}
}
