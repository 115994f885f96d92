package run

import (
	"concordat/api"
	"concordat/bind"
	"concordat/decls"
	"concordat/names"
)

// code is a node whose name is resolved, so that this need not be done at
// every step.
type code struct {
	kind   int
	text   string
	n      int64
	entity api.Entity
	// byClass says that the first Kid is the name of a class, which is not evaluated.
	byClass bool
	kids    []*code
}

// method is a method that can be executed: the ids of its parameters, and its
// body.
type method struct {
	params []string
	body   *code
}

// none stands for a Kid that is missing, which none is in trees that parse
// returns.
func none() *code { return &code{} }

// kid returns a Kid of c.
func (c *code) kid(i int) *code {
	if i >= len(c.kids) {
		return none()
	}
	return c.kids[i]
}

// resolver resolves the names of methods.
type resolver struct {
	names  names.Index
	scope  bind.Scope
	file   int
	method string
	number int // of the next parameter or local
}

// resolved returns the methods of a program by their ids.
func resolved(table []api.Entity, files [][]api.Node) map[string]*method {
	out := map[string]*method{}
	uses, _ := bind.Uses(files)
	r := resolver{names: names.New(table, uses), scope: bind.Scope{Table: names.Globals(table)}}
	for file, classes := range files {
		r.file = file
		for _, class := range classes {
			r.scope.Class = decls.Class(class.Text)
			for _, n := range class.Kids {
				if class.Kind == api.Class && n.Kind == api.Method {
					r.method = decls.Method(r.scope.Class, n.Text)
					out[r.method] = r.body(n)
				}
			}
		}
	}
	return out
}

// body resolves a method.
func (r *resolver) body(n api.Node) *method {
	r.number = 0
	r.scope.Static, r.scope.Seen = n.N == 1, nil
	out := method{body: none()}
	for i, kid := range n.Kids {
		if kid.Kind == api.Param {
			out.params = append(out.params, r.declare(kid).Id)
		}
		if i == len(n.Kids)-1 {
			out.body = r.code(kid)
		}
	}
	return &out
}

// declare makes a parameter or local visible.
func (r *resolver) declare(n api.Node) api.Entity {
	e := api.Entity{Kind: api.IsLocal, Id: decls.Local(r.method, r.number), Name: n.Text, Type: n.Type}
	r.number++
	r.scope.Seen = append(r.scope.Seen, e)
	return e
}

// code resolves a node and what is inside it.
func (r *resolver) code(n api.Node) *code {
	c := &code{kind: n.Kind, text: n.Text, n: n.N}
	c.entity, _ = r.names.Entity(r.scope, r.file, n)
	seen := r.scope.Seen
	for _, kid := range n.Kids {
		c.kids = append(c.kids, r.code(kid))
	}
	switch n.Kind {
	case api.Local:
		c.entity = r.declare(n)
	case api.Block:
		r.scope.Seen = seen
	case api.Dot, api.DotCall:
		first := c.kid(0)
		c.byClass = first.kind == api.Name && first.entity.Kind == api.IsClass
	}
	return c
}
