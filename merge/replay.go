package merge

import (
	"concordat/api"
	"concordat/move"
)

// replay performs the requests of one side on another side.
type replay struct {
	o    *trail // the base, before anything was performed
	l    *trail // the side, before anything was performed
	own  *trail // the base with the requests of the side
	rs   *trail // the base with the requests so far
	side *trail // the side with the requests so far
}

// Replay performs the requests rs on l, a side that was made from o by the
// requests own. It returns the tree, and the requests that can't be performed.
func Replay(o, l []api.File, own, rs []api.Request) ([]api.File, []api.Request) {
	base, side := begun(o), begun(l)
	p := replay{o: base, l: side, own: base.fork().all(own), rs: base.fork(), side: side.fork()}
	var bad []api.Request
	perform := func(r api.Request) {
		e, is := p.rs.back(p.o.table, r.Id)
		if is && !p.done(r, e) {
			bad = append(bad, r)
		}
		p.rs.advance(r)
	}
	for _, r := range rs {
		perform(r)
	}
	return p.side.tree, bad
}

// local returns the id that an entity of the base has on the side now.
func (p *replay) local(e api.Entity) string { return p.side.through(p.own.through(e.Id)) }

// done performs a request, which concerns the entity e of the base, on the
// side. It reports whether that was possible, or not necessary.
func (p *replay) done(r api.Request, e api.Entity) bool {
	here := api.Request{Kind: r.Kind, Id: p.local(e), To: r.To}
	if r.Kind == api.MoveMember {
		if class, is := p.rs.back(p.o.table, r.To); is {
			here.To = p.local(class)
		}
	}
	x, is := p.side.entity(here.Id)
	if !is || p.holds(here, x) {
		return true
	}
	return !p.differently(r.Kind, e) && p.side.advance(here)
}

// holds reports whether a request asks for what is so already of an entity of
// the side.
func (p *replay) holds(r api.Request, x api.Entity) bool {
	switch r.Kind {
	case api.Rename:
		return x.Name == r.To
	case api.MoveMember:
		return x.Owner == r.To
	case api.MoveClass:
		path, is := move.Where(p.side.tree, x.Id)
		return is && path == r.To
	}
	return false
}

// differently reports whether the side has changed itself what a request of a
// kind changes of the entity e of the base.
func (p *replay) differently(kind int, e api.Entity) bool {
	y, is := p.l.entity(p.own.through(e.Id))
	if !is {
		return false
	}
	switch kind {
	case api.Rename:
		return y.Name != e.Name
	case api.MoveMember:
		return y.Owner != p.own.through(e.Owner)
	case api.MoveClass:
		here, _ := move.Where(p.l.tree, y.Id)
		there, _ := move.Where(p.o.tree, e.Id)
		return here != there
	}
	return false
}
