// Package names tells to which entities the names of a program refer, and
// which types its expressions have, as a scope of package bind does, but
// without searching for what is known of a name from the uses of the program.
package names

import (
	"concordat/api"
	"concordat/bind"
)

// place is where a name stands.
type place struct{ file, at int }

// Index knows the uses of a program.
type Index struct {
	table []api.Entity
	known map[place]int // by the places of the names, the indices of their entities
}

// ambiguous stands in the place of an index where several names are said to
// stand, which is so in no program that was parsed.
const ambiguous = -1

// New returns the index of the uses of a program with a table. The entities
// that it answers share the memory of the table.
func New(table []api.Entity, uses []api.Use) Index {
	first := map[string]int{}
	for i := range table {
		if _, is := first[table[i].Id]; !is {
			first[table[i].Id] = i
		}
	}
	known := map[place]int{}
	for _, u := range uses {
		p := place{u.File, u.At}
		i, is := first[u.Id]
		if _, twice := known[p]; twice || !is {
			i = ambiguous
		}
		known[p] = i
	}
	return Index{table, known}
}

// Globals returns the entities of a table without parameters and locals, among
// which no scope searches.
func Globals(table []api.Entity) []api.Entity {
	var out []api.Entity
	for _, e := range table {
		if e.Kind != api.IsLocal {
			out = append(out, e)
		}
	}
	return out
}

// Entity returns the entity to which a node of a file refers in a scope.
func (x Index) Entity(s bind.Scope, file int, n api.Node) (api.Entity, api.Errno) {
	switch n.Kind {
	case api.Name, api.Call, api.New, api.Dot, api.DotCall:
		if i, is := x.known[place{file, n.At}]; is && i != ambiguous {
			return x.table[i], api.OK
		}
	}
	return s.Entity(n)
}

// Type returns the type of an expression of a file in a scope, or an empty
// string if it has none.
func (x Index) Type(s bind.Scope, file int, n api.Node) string {
	switch n.Kind {
	case api.Name, api.Call, api.Dot, api.DotCall:
		e, errno := x.Entity(s, file, n)
		if errno != api.OK || e.Kind == api.IsClass {
			return ""
		}
		return e.Type
	}
	return s.Type(n)
}
