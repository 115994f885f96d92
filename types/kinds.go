package types

import "concordat/api"

// isClassName reports whether n is the name of a class.
func (c *checker) isClassName(n api.Node) bool {
	if n.Kind != api.Name {
		return false
	}
	e, errno := c.names.Entity(c.scope, c.file, n)
	return errno == api.OK && e.Kind == api.IsClass
}

// name checks a Name that is not the first Kid of a Dot or DotCall.
func (c *checker) name(n api.Node) { c.must(!c.isClassName(n), api.ErrName, n.At) }

// not checks a Not.
func (c *checker) not(n api.Node) {
	c.all(n.Kids)
	c.is(kid(n, 0), "boolean")
}

// neg checks a Neg.
func (c *checker) neg(n api.Node) {
	c.all(n.Kids)
	c.is(kid(n, 0), "int")
}

// binary checks a Binary.
func (c *checker) binary(n api.Node) {
	c.all(n.Kids)
	t := Operator(c.classes, n.Text, c.typeOf(kid(n, 0)), c.typeOf(kid(n, 1)))
	c.must(t != "", api.ErrType, n.From)
}

// dot checks a Dot, or what is before the name of a DotCall.
func (c *checker) dot(n api.Node) {
	if first := kid(n, 0); first.Kind != api.Name {
		c.check(first)
	}
}

// call checks a Call.
func (c *checker) call(n api.Node) {
	c.all(n.Kids)
	c.arguments(n, n.Kids)
}

// dotCall checks a DotCall.
func (c *checker) dotCall(n api.Node) {
	c.dot(n)
	if len(n.Kids) > 0 {
		c.all(n.Kids[1:])
		c.arguments(n, n.Kids[1:])
	}
}

// arguments checks that a method may be called with arguments.
func (c *checker) arguments(n api.Node, l []api.Node) {
	e, _ := c.names.Entity(c.scope, c.file, n)
	c.must(len(l) == len(e.Params), api.ErrArgs, n.At)
	for i, argument := range l {
		c.may(argument, e.Params[i])
	}
}

// local checks a Local, and makes it visible behind it.
func (c *checker) local(n api.Node) {
	c.all(n.Kids)
	c.may(kid(n, 0), n.Type)
	c.see(n)
}

// set checks a Set.
func (c *checker) set(n api.Node) {
	left, right := kid(n, 0), kid(n, 1)
	variable := left.Kind == api.Dot || left.Kind == api.Name && !c.isClassName(left)
	c.must(variable, api.ErrLeft, left.From)
	c.all(n.Kids)
	c.may(right, c.typeOf(left))
}

// do checks a Do.
func (c *checker) do(n api.Node) {
	x := kid(n, 0)
	c.must(x.Kind == api.Call || x.Kind == api.DotCall, api.ErrLeft, x.From)
	c.check(x)
}

// choice checks an If or a While.
func (c *checker) choice(n api.Node) {
	condition := kid(n, 0)
	c.check(condition)
	c.is(condition, "boolean")
	c.all(n.Kids[1:])
}

// giveBack checks a Return.
func (c *checker) giveBack(n api.Node) {
	if len(n.Kids) == 0 {
		c.must(c.result == "void", api.ErrType, n.From)
		return
	}
	c.all(n.Kids)
	c.may(n.Kids[0], c.result)
}

// output checks a Print.
func (c *checker) output(n api.Node) {
	x := kid(n, 0)
	c.check(x)
	t := c.typeOf(x)
	c.must(t == "int" || t == "boolean", api.ErrType, x.From)
}

// block checks a Block; the locals of which it consists end with it.
func (c *checker) block(n api.Node) {
	seen := c.scope.Seen
	c.all(n.Kids)
	c.scope.Seen = seen
}
