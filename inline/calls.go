package inline

import (
	"iter"
	"slices"

	"concordat/api"
	"concordat/bind"
	"concordat/decls"
	"concordat/names"
	"concordat/print"
)

// scope returns the scope of what the method returns.
func (s source) scope() bind.Scope {
	return bind.Scope{Table: names.Globals(s.table), Class: s.entity.Owner, Static: true, Seen: decls.Of(s.table, s.entity.Id)}
}

// answer returns what the method returns, in a form that means the same
// everywhere, and whether it can be inlined for its own sake.
func (s source) answer() (api.Node, bool) {
	n, is := Answer(s.node)
	if !is || !s.entity.Static || s.index.Type(s.scope(), s.entity.File, n) != s.entity.Type {
		return api.Node{}, false
	}
	return rewritten(n, s.qualified()), true
}

// qualified returns what puts the class of a member before its name, where the
// name stands alone.
func (s source) qualified() func(api.Node) (api.Node, bool) {
	scope := s.scope()
	return func(n api.Node) (api.Node, bool) {
		if n.Kind != api.Name && n.Kind != api.Call {
			return n, false
		}
		e, _ := s.index.Entity(scope, s.entity.File, n)
		owner := api.Node{Kind: api.Name, Text: e.Owner, At: -1, TypeAt: -1}
		switch e.Kind {
		case api.IsField:
			n.Kind, n.Kids = api.Dot, []api.Node{owner}
			return n, true
		case api.IsMethod:
			n.Kind, n.Kids = api.DotCall, slices.Concat([]api.Node{owner}, n.Kids)
		}
		return n, false
	}
}

// calls yields the calls of the method with their scopes.
func (s source) calls() iter.Seq2[bind.Scope, names.Spot] {
	return func(yield func(bind.Scope, names.Spot) bool) {
		for scope, p := range names.Spots(s.table, s.files) {
			if p.Node.Kind != api.Call && p.Node.Kind != api.DotCall {
				continue
			}
			e, _ := s.index.Entity(scope, p.File, p.Node)
			if e.Id == s.entity.Id && !yield(scope, p) {
				return
			}
		}
	}
}

// edits returns the edits of each file that replace the calls by the answer,
// and remove the method; and whether all calls can be replaced.
func (s source) edits(answer api.Node) ([][]api.Edit, bool) {
	var params []string
	for _, e := range decls.Of(s.table, s.entity.Id) {
		params = append(params, e.Name)
	}
	out := make([][]api.Edit, len(s.files))
	out[s.entity.File] = []api.Edit{{From: s.node.From, To: s.node.To}}
	for scope, p := range s.calls() {
		arguments, is := s.arguments(scope, p)
		if !is || p.Member == s.entity.Id {
			return nil, false
		}
		text := "(" + print.Expression(Put(answer, params, arguments)) + ")"
		out[p.File] = append(out[p.File], api.Edit{From: p.Node.From, To: p.Node.To, Text: text})
	}
	return out, true
}

// arguments returns the arguments of a call, and whether each of them may
// stand wherever a name of its parameter does.
func (s source) arguments(scope bind.Scope, p names.Spot) ([]api.Node, bool) {
	l := p.Node.Kids
	if p.Node.Kind == api.DotCall {
		owner, _ := s.index.Entity(scope, p.File, l[0])
		if l[0].Kind != api.Name || owner.Kind != api.IsClass {
			return nil, false
		}
		l = l[1:]
	}
	for i, n := range l {
		e, _ := s.index.Entity(scope, p.File, n)
		if n.Kind == api.Null || n.Kind == api.Name && e.Kind != api.IsLocal || !Plain([]api.Entity{e}, n) {
			return nil, false
		}
		if s.index.Type(scope, p.File, n) != s.entity.Params[i] {
			return nil, false
		}
	}
	return l, true
}
