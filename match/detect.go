package match

import (
	"slices"

	"concordat/api"
	"concordat/decls"
	"concordat/request"
)

// search looks for the requests that bring a program nearer to a goal.
type search struct {
	current program
	goal    program
	done    []api.Request
}

// try performs a request, if that is possible.
func (s *search) try(kind int, id, to string) {
	r := api.Request{Kind: kind, Id: id, To: to}
	next, _, e := request.Do(s.current.tree, r)
	if e != api.OK {
		return
	}
	if p, is := read(next); is {
		s.current = p
		s.done = append(s.done, r)
	}
}

// lost returns the ids of the entities of a kind that the goal does not have.
func (s *search) lost(kind int) []string { return ids(s.current.lost(s.goal, kind)) }

// rename tries to rename entities to what resembles them in the goal.
func (s *search) rename(ids []string, least int) {
	for _, id := range ids {
		if e, is := s.current.pair(s.goal, id, least); is {
			s.try(api.Rename, id, e.Name)
		}
	}
}

// move tries to move static members of a kind to where the goal has them.
func (s *search) move(kind int) {
	for _, id := range s.lost(kind) {
		e, is := decls.Find(s.current.table, id)
		if !is || !e.Static {
			continue
		}
		candidates := s.goal.lost(s.current, kind)
		i := slices.IndexFunc(candidates, func(f api.Entity) bool {
			return f.Static && f.Name == e.Name && f.Owner != e.Owner && s.current.has(f.Owner) &&
				s.current.similarity(s.goal, e, f) >= enough
		})
		if i >= 0 {
			s.try(api.MoveMember, id, candidates[i].Owner)
		}
	}
}

// place tries to move classes to the files in which the goal has them.
func (s *search) place() {
	for _, e := range s.current.table {
		if e.Kind != api.IsClass {
			continue
		}
		// The class is still there, but it may be in another file, or the files may be others.
		now, _ := decls.Find(s.current.table, e.Id)
		then, is := decls.Find(s.goal.table, e.Id)
		if !is {
			continue
		}
		if path := s.goal.tree[then.File].Path; s.current.tree[now.File].Path != path {
			s.try(api.MoveClass, e.Id, path)
		}
	}
}

// detect looks for the requests that bring a near to b, and reports whether
// both are programs.
func detect(a, b []api.File) (search, bool) {
	p, q, is := both(a, b)
	if !is {
		return search{}, false
	}
	s := search{current: p, goal: q}
	questions := []func(){
		func() { s.rename(s.lost(api.IsClass), enough) },
		func() {
			fields, methods := s.lost(api.IsField), s.lost(api.IsMethod)
			s.rename(fields, enoughField)
			s.rename(methods, enough)
		},
		func() { s.move(api.IsField) },
		func() { s.move(api.IsMethod) },
		func() { s.place() },
	}
	for _, ask := range questions {
		ask()
	}
	return s, true
}

// Detect returns the requests that bring a near to b, each of which can be
// performed on what those before it make of a.
func Detect(a, b []api.File) []api.Request {
	s, _ := detect(a, b)
	return s.done
}

// Replay returns a with the requests of Detect performed.
func Replay(a, b []api.File) []api.File {
	s, is := detect(a, b)
	if !is {
		return slices.Clone(a)
	}
	return s.current.tree
}
