package move

import (
	"concordat/api"
	"concordat/bind"
	"concordat/check"
	"concordat/names"
)

// changes are what becomes of the names of a program when a member is moved.
type changes struct {
	id    string // of the member
	class string // to which it is moved
	index names.Index
	edits [][]api.Edit // of each file
	// added and removed are the ids of the classes that are named in addition, and no longer.
	added   []string
	removed []string
	refused bool
}

// kinds returns what is done with the kinds of names that may change.
func (c *changes) kinds() map[int]func(bind.Scope, names.Spot) {
	bare := func(s bind.Scope, p names.Spot) {
		e, _ := c.index.Entity(s, p.File, p.Node)
		switch {
		case e.Id == c.id:
			c.prefix(p, c.class)
		case p.Member == c.id && e.Static:
			c.prefix(p, e.Owner)
		}
	}
	dotted := func(s bind.Scope, p names.Spot) {
		e, _ := c.index.Entity(s, p.File, p.Node)
		if e.Id == c.id {
			first := p.Node.Kids[0]
			owner, _ := c.index.Entity(s, p.File, first)
			c.requalify(p.File, first, owner)
		}
	}
	return map[int]func(bind.Scope, names.Spot){
		api.Name:    bare,
		api.Call:    bare,
		api.Dot:     dotted,
		api.DotCall: dotted,
	}
}

// prefix puts a class and a dot before a name.
func (c *changes) prefix(p names.Spot, class string) {
	at := p.Node.At
	c.edits[p.File] = append(c.edits[p.File], api.Edit{From: at, To: at, Text: class + "."})
	c.added = append(c.added, class)
}

// requalify replaces the name of a class before the name of the member.
func (c *changes) requalify(file int, first api.Node, owner api.Entity) {
	if first.Kind != api.Name || owner.Kind != api.IsClass {
		c.refused = true
		return
	}
	c.edits[file] = append(c.edits[file], api.Edit{From: first.At, To: first.At + len(first.Text), Text: c.class})
	c.removed = append(c.removed, owner.Id)
	c.added = append(c.added, c.class)
}

// expected returns the ids that the program must have when the member has its
// new id, in any order.
func (c *changes) expected(uses []api.Use, now string) []string {
	gone := map[string]int{}
	for _, id := range c.removed {
		gone[id]++
	}
	out := append([]string{}, c.added...)
	for _, u := range uses {
		if gone[u.Id] > 0 {
			gone[u.Id]--
			continue
		}
		out = append(out, check.Swap(u.Id, c.id, now))
	}
	return out
}
