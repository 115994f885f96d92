package run

import (
	"concordat/api"
	"concordat/arith"
	"concordat/heap"
	"concordat/kin"
)

// The ways in which a statement may end.
const (
	goesOn = iota
	returns
)

// frame is what an active call has of its own.
type frame struct {
	this   heap.Value
	locals map[string]heap.Value // by their ids
	result heap.Value
}

// message is what a method is selected by: the class of an object, and a name.
type message struct {
	class string
	name  string
}

// static returns the value that stands for the static fields.
func static() heap.Value { return heap.Value{Kind: heap.Int} }

// truth returns a truth value.
func truth(is bool) heap.Value {
	if is {
		return heap.Value{Kind: heap.Bool, N: 1}
	}
	return heap.Value{Kind: heap.Bool}
}

// execute executes a statement, and returns how it ended.
func (m *machine) execute(f *frame, c *code) int {
	m.step()
	switch c.kind {
	case api.Block:
		for _, kid := range c.kids {
			if m.execute(f, kid) == returns {
				return returns
			}
		}
	case api.Local:
		f.locals[c.entity.Id] = m.evaluate(f, c.kid(0))
	case api.Set:
		m.set(f, c.kid(0), c.kid(1))
	case api.Do:
		m.evaluate(f, c.kid(0))
	case api.If:
		if m.holds(f, c.kid(0)) {
			return m.execute(f, c.kid(1))
		}
		if len(c.kids) > 2 {
			return m.execute(f, c.kid(2))
		}
	case api.While:
		for m.holds(f, c.kid(0)) {
			if m.execute(f, c.kid(1)) == returns {
				return returns
			}
		}
	case api.Return:
		if len(c.kids) > 0 {
			f.result = m.evaluate(f, c.kid(0))
		}
		return returns
	case api.Print:
		m.result.Out = append(m.result.Out, heap.Show(m.evaluate(f, c.kid(0))))
	}
	return goesOn
}

// holds evaluates a condition.
func (m *machine) holds(f *frame, c *code) bool { return m.evaluate(f, c) == truth(true) }

// set assigns the value of right to left, for which no step is counted.
func (m *machine) set(f *frame, left, right *code) {
	switch {
	case left.kind == api.Dot:
		qualifier := m.qualifier(f, left)
		v := m.evaluate(f, right)
		must(m.heap.Set(field(qualifier, left), left.entity.Id, v))
	case left.entity.Kind == api.IsLocal:
		f.locals[left.entity.Id] = m.evaluate(f, right)
	default:
		v := m.evaluate(f, right)
		must(m.heap.Set(owner(f, left), left.entity.Id, v))
	}
}

// qualifier evaluates what is before the name of a Dot or DotCall, unless it is
// the name of a class.
func (m *machine) qualifier(f *frame, c *code) heap.Value {
	if c.byClass {
		return static()
	}
	return m.evaluate(f, c.kid(0))
}

// field returns the value that has the field of a Dot. What is null has no
// field, not even a static one.
func field(qualifier heap.Value, c *code) heap.Value {
	if c.entity.Static && qualifier.Kind != heap.Null {
		return static()
	}
	return qualifier
}

// owner returns the value that has the field of a Name.
func owner(f *frame, c *code) heap.Value {
	if c.entity.Static {
		return static()
	}
	return f.this
}

// get returns the value of a field.
func (m *machine) get(of heap.Value, c *code) heap.Value {
	v, e := m.heap.Get(of, c.entity.Id, c.entity.Type)
	must(e)
	return v
}

// evaluate evaluates an expression.
func (m *machine) evaluate(f *frame, c *code) heap.Value {
	m.step()
	switch c.kind {
	case api.Int:
		return heap.Value{Kind: heap.Int, N: c.n}
	case api.Bool:
		return truth(c.n == 1)
	case api.This:
		return f.this
	case api.Name:
		if c.entity.Kind == api.IsLocal {
			return f.locals[c.entity.Id]
		}
		return m.get(owner(f, c), c)
	case api.Dot:
		return m.get(field(m.qualifier(f, c), c), c)
	case api.New:
		v, e := m.heap.Make(c.entity.Id)
		must(e)
		return v
	case api.Not:
		return truth(!m.holds(f, c.kid(0)))
	case api.Neg:
		return heap.Value{Kind: heap.Int, N: arith.Neg(m.evaluate(f, c.kid(0)).N)}
	case api.Binary:
		return m.binary(f, c)
	case api.Call:
		return m.call(c, f.this, m.all(f, c.kids))
	case api.DotCall:
		receiver := m.qualifier(f, c)
		return m.call(c, receiver, m.all(f, c.kids[min(1, len(c.kids)):]))
	}
	return heap.Value{}
}

// all evaluates expressions from left to right.
func (m *machine) all(f *frame, l []*code) []heap.Value {
	var out []heap.Value
	for _, c := range l {
		out = append(out, m.evaluate(f, c))
	}
	return out
}

// binary evaluates a Binary; the second Kid only if the first one does not
// determine the result.
func (m *machine) binary(f *frame, c *code) heap.Value {
	a := m.evaluate(f, c.kid(0))
	if c.text == "&&" && a == truth(false) || c.text == "||" && a == truth(true) {
		return a
	}
	b := m.evaluate(f, c.kid(1))
	switch c.text {
	case "&&", "||":
		return b
	case "==":
		return truth(a == b)
	case "!=":
		return truth(a != b)
	}
	if is, compares := arith.Test(c.text, a.N, b.N); compares {
		return truth(is)
	}
	n, e := arith.Do(c.text, a.N, b.N)
	must(e)
	return heap.Value{Kind: heap.Int, N: n}
}

// call calls the method to which c refers. The receiver of a static method is
// ignored.
func (m *machine) call(c *code, receiver heap.Value, arguments []heap.Value) heap.Value {
	callee := m.method(c.entity.Id)
	f := frame{locals: map[string]heap.Value{}}
	if !c.entity.Static {
		if receiver.Kind == heap.Null {
			panic(stop{api.ErrNull})
		}
		callee = m.selected(receiver, c.text)
		f.this = receiver
	}
	if m.calls >= api.MaxCalls {
		panic(stop{api.ErrDepth})
	}
	for i := range min(len(arguments), len(callee.params)) {
		f.locals[callee.params[i]] = arguments[i]
	}
	m.calls++
	m.execute(&f, callee.body)
	m.calls--
	return f.result
}

// selected returns the method with a name that the class of an object has or
// inherits.
func (m *machine) selected(receiver heap.Value, name string) *method {
	class, _ := m.heap.Class(receiver)
	k := message{class, name}
	callee, known := m.dispatch[k]
	if !known {
		e, _ := kin.Method(m.table, class, name)
		callee = m.method(e.Id)
		m.dispatch[k] = callee
	}
	return callee
}

// method returns the method with an id; one that is missing, which none is in
// trees that parse returns, does nothing.
func (m *machine) method(id string) *method {
	if callee, is := m.methods[id]; is {
		return callee
	}
	return &method{body: none()}
}
