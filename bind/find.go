package bind

import (
	"slices"

	"concordat/api"
	"concordat/kin"
)

// finder finds classes by their ids, and the members that classes have or
// inherit by their kinds and names.
type finder struct {
	class  func(id string) (api.Entity, bool)
	member func(kind int, class, name string) (api.Entity, bool)
}

// copied returns an entity in new memory.
func copied(e *api.Entity) api.Entity {
	out := *e
	out.Params = slices.Clone(e.Params)
	return out
}

// searched returns a finder that searches a table for each entity.
func searched(table []api.Entity) finder {
	class := func(id string) (api.Entity, bool) {
		for i := range table {
			if e := &table[i]; e.Kind == api.IsClass && e.Id == id {
				return copied(e), true
			}
		}
		return api.Entity{}, false
	}
	member := func(kind int, class, name string) (api.Entity, bool) {
		if kind == api.IsField {
			return kin.Field(table, class, name)
		}
		return kin.Method(table, class, name)
	}
	return finder{class, member}
}

// question is what a finder was asked: a class has no name in it.
type question struct {
	kind  int
	class string
	name  string
}

// answer is what it found.
type answer struct {
	e  api.Entity
	is bool
}

// remembered returns a finder that searches a table for each entity only once.
func remembered(table []api.Entity) finder {
	search := searched(table)
	known := map[question]answer{}
	ask := func(q question, find func() (api.Entity, bool)) (api.Entity, bool) {
		a, is := known[q]
		if !is {
			a.e, a.is = find()
			known[q] = a
		}
		return a.e, a.is
	}
	class := func(id string) (api.Entity, bool) {
		return ask(question{kind: api.IsClass, class: id}, func() (api.Entity, bool) { return search.class(id) })
	}
	member := func(kind int, class, name string) (api.Entity, bool) {
		return ask(question{kind, class, name}, func() (api.Entity, bool) { return search.member(kind, class, name) })
	}
	return finder{class, member}
}
