package names

import (
	"iter"

	"concordat/api"
	"concordat/bind"
	"concordat/decls"
)

// Spot is a node of a program: the index of its file, and the id of the member
// of a class in which it is, or which it is itself.
type Spot struct {
	File   int
	Member string
	Node   api.Node
}

// walk traverses a program.
type walk struct {
	scope  bind.Scope
	spot   Spot
	number int // of the next parameter or local of the member
	yield  func(bind.Scope, Spot) bool
}

// Spots yields the nodes of a program with a table, in order, each with its
// scope. A scope must not be kept after the next one was asked for.
func Spots(table []api.Entity, files [][]api.Node) iter.Seq2[bind.Scope, Spot] {
	return func(yield func(bind.Scope, Spot) bool) {
		w := walk{scope: bind.Scope{Table: Globals(table)}, yield: yield}
		for file, classes := range files {
			w.spot.File = file
			for _, n := range classes {
				if !w.class(n) {
					return
				}
			}
		}
	}
}

// class traverses a class, and reports whether the traversal goes on.
func (w *walk) class(n api.Node) bool {
	w.scope.Class = decls.Class(n.Text)
	w.scope.Static, w.scope.Seen = false, nil
	w.spot.Member, w.spot.Node = "", n
	if !w.yield(w.scope, w.spot) {
		return false
	}
	for _, kid := range n.Kids {
		w.number = 0
		w.scope.Seen = nil
		w.scope.Static = kid.Kind == api.Method && kid.N == 1
		w.spot.Member = decls.Field(w.scope.Class, kid.Text)
		if kid.Kind == api.Method {
			w.spot.Member = decls.Method(w.scope.Class, kid.Text)
		}
		if !w.visit(kid) {
			return false
		}
	}
	return true
}

// visit traverses a node in a class.
func (w *walk) visit(n api.Node) bool {
	w.spot.Node = n
	if !w.yield(w.scope, w.spot) {
		return false
	}
	seen := w.scope.Seen
	for _, kid := range n.Kids {
		if !w.visit(kid) {
			return false
		}
	}
	switch n.Kind {
	case api.Block:
		w.scope.Seen = seen
	case api.Param, api.Local:
		e := api.Entity{Kind: api.IsLocal, Id: decls.Local(w.spot.Member, w.number), Name: n.Text, Owner: w.spot.Member, Type: n.Type, File: w.spot.File, At: n.At}
		w.scope.Seen = append(w.scope.Seen, e)
		w.number++
	}
	return true
}
