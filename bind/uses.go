package bind

import (
	"cmp"
	"slices"

	"concordat/api"
	"concordat/decls"
	"concordat/kin"
)

// deepest is how deep trees may be. It is more than parse returns, and keeps
// the traversal, which recurs, within its stack.
const deepest = 1000

// stop is what the traversal panics with at the first mistake.
type stop struct{ mistake api.Mistake }

// walker traverses the classes of a program.
type walker struct {
	resolver
	file   int
	uses   []api.Use
	method string // the id of the method around
	number int    // of the next parameter or local in it
	depth  int
}

// fail ends the traversal with a mistake.
func (w *walker) fail(e api.Errno, at int) {
	panic(stop{api.Mistake{Code: e, File: w.file, At: at}})
}

// use adds a name, unless it refers to nothing.
func (w *walker) use(at int, e api.Entity, errno api.Errno) {
	if errno != api.OK {
		w.fail(errno, at)
	}
	w.uses = append(w.uses, api.Use{File: w.file, At: at, Id: e.Id})
}

// declared returns the entity that n declares, and whether it declares one.
func (w *walker) declared(n api.Node) (api.Entity, bool) {
	e := api.Entity{Name: n.Text, Type: n.Type, File: w.file, At: n.At}
	switch n.Kind {
	case api.Class:
		e.Kind, e.Id = api.IsClass, decls.Class(n.Text)
	case api.Field:
		e.Kind, e.Id = api.IsField, decls.Field(w.scope.Class, n.Text)
	case api.Method:
		e.Kind, e.Id = api.IsMethod, decls.Method(w.scope.Class, n.Text)
	case api.Param, api.Local:
		e.Kind, e.Id, e.Owner = api.IsLocal, decls.Local(w.method, w.number), w.method
	default:
		return api.Entity{}, false
	}
	return e, true
}

// visit adds the names of the tree n.
func (w *walker) visit(n api.Node) {
	w.depth++
	if w.depth > deepest {
		w.fail(api.ErrLimit, n.From)
	}
	if n.TypeAt >= 0 && n.Type != "int" && n.Type != "boolean" && n.Type != "void" {
		e, errno := w.class(n.Type)
		w.use(n.TypeAt, e, errno)
	}
	kids := n.Kids
	if (n.Kind == api.Dot || n.Kind == api.DotCall) && len(kids) > 0 {
		w.visit(kids[0])
		kids = kids[1:]
	}
	if n.Kind == api.This && w.scope.Static {
		w.fail(api.ErrStatic, n.From)
	}
	e, declares := w.declared(n)
	if n.At >= 0 {
		errno := api.OK
		if !declares {
			e, errno = w.entity(n)
		}
		w.use(n.At, e, errno)
	}
	w.inside(n, e, kids)
	w.depth--
}

// inside adds the names of the Kids of n, which declares e, if anything.
func (w *walker) inside(n api.Node, e api.Entity, kids []api.Node) {
	scope := w.scope
	switch n.Kind {
	case api.Class:
		w.scope.Class = e.Id
	case api.Method:
		w.method, w.number = e.Id, 0
		w.scope.Static, w.scope.Seen = n.N == 1, nil
	case api.Param, api.Local:
		w.number++
	}
	for _, kid := range kids {
		w.visit(kid)
	}
	switch n.Kind {
	case api.Class, api.Method, api.Block:
		w.scope = scope
	case api.Param, api.Local:
		w.scope.Seen = append(w.scope.Seen, e)
	}
}

// Uses returns every name of a program with the entity to which it refers, in
// the order in which the names stand; or the first mistake.
func Uses(files [][]api.Node) (l []api.Use, m api.Mistake) {
	table, m := decls.Table(files)
	if m.Code == api.OK {
		m = kin.Check(table)
	}
	if m.Code != api.OK {
		return nil, m
	}
	defer func() {
		switch problem := recover().(type) {
		case nil:
		case stop:
			l, m = nil, problem.mistake
		default:
			panic(problem)
		}
	}()
	// Scopes list the locals that are visible; no name is looked for among all of them.
	table = slices.DeleteFunc(table, func(e api.Entity) bool { return e.Kind == api.IsLocal })
	w := walker{resolver: resolver{Scope{Table: table}, remembered(table)}}
	for file, classes := range files {
		w.file = file
		for _, n := range classes {
			if n.Kind == api.Class {
				w.visit(n)
			}
		}
	}
	slices.SortStableFunc(w.uses, func(a, b api.Use) int {
		return cmp.Or(cmp.Compare(a.File, b.File), cmp.Compare(a.At, b.At))
	})
	return w.uses, api.Mistake{}
}
