package merge

import (
	"slices"

	"concordat/api"
	"concordat/check"
	"concordat/decls"
	"concordat/family"
	"concordat/request"
)

// trail is a tree on which requests are performed one after the other, and
// what each of them does to ids.
type trail struct {
	tree  []api.File
	table []api.Entity
	steps []func(id string) string
}

// begun returns a trail on which nothing was performed yet.
func begun(l []api.File) *trail {
	t := &trail{tree: slices.Clone(l)}
	t.table, _ = check.Table(l)
	return t
}

// fork returns a trail that begins where t is now.
func (t *trail) fork() *trail { return &trail{tree: t.tree, table: t.table} }

// advance performs a request, and reports whether that was possible.
func (t *trail) advance(r api.Request) bool {
	next, undo, e := request.Do(t.tree, r)
	if e != api.OK {
		return false
	}
	t.steps = append(t.steps, step(t.table, r, undo))
	t.tree = next
	t.table, _ = check.Table(next)
	return true
}

// all performs requests, as far as they can be performed.
func (t *trail) all(rs []api.Request) *trail {
	for _, r := range rs {
		t.advance(r)
	}
	return t
}

// step returns what request.Id says of a request that was performed on a
// program with a table, given the request that undoes it. It performs nothing
// again.
func step(table []api.Entity, r, undo api.Request) func(id string) string {
	switch r.Kind {
	case api.Rename:
		ids := family.Of(table, r.Id)
		members := slices.DeleteFunc(slices.Clone(table), func(e api.Entity) bool { return !slices.Contains(ids, e.Id) })
		return func(id string) string { return family.Swap(members, ids, r.To, id) }
	case api.MoveMember:
		return func(id string) string { return check.Swap(id, r.Id, undo.Id) }
	}
	return func(id string) string { return id }
}

// through returns what becomes of an id on the trail.
func (t *trail) through(id string) string {
	for _, step := range t.steps {
		id = step(id)
	}
	return id
}

// entity returns the entity that has an id now.
func (t *trail) entity(id string) (api.Entity, bool) { return decls.Find(t.table, id) }

// back returns the first entity of a table that has an id at the end of the
// trail.
func (t *trail) back(table []api.Entity, id string) (api.Entity, bool) {
	for _, e := range table {
		if t.through(e.Id) == id {
			return e, true
		}
	}
	return api.Entity{}, false
}

// Through returns what becomes of an id if requests are performed on l.
func Through(l []api.File, rs []api.Request, id string) string {
	return begun(l).all(rs).through(id)
}

// Back returns the id of the first entity of l that has the given id after
// requests were performed, and whether there is one.
func Back(l []api.File, rs []api.Request, id string) (string, bool) {
	t := begun(l)
	table := t.table
	e, is := t.all(rs).back(table, id)
	return e.Id, is
}
