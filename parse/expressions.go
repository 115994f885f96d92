package parse

import (
	"strconv"

	"concordat/api"
)

// part is an expression with the span of the parentheses around it, which are
// not in its own span, but in that of the expression of which it is a Kid.
type part struct {
	node api.Node
	from int
	to   int
}

// bare returns an expression without parentheses around it as a part.
func bare(n api.Node) part { return part{n, n.From, n.To} }

// binds returns how tightly a binary operator binds, and 0 for other tokens.
func binds(t api.Token) int {
	switch t.Text {
	case "||":
		return 1
	case "&&":
		return 2
	case "==", "!=":
		return 3
	case "<", "<=", ">", ">=":
		return 4
	case "+", "-":
		return 5
	case "*", "/", "%":
		return 6
	}
	return 0
}

// expression reads an expression of the given depth.
func (p *parser) expression(depth int) part { return p.operands(depth, 1) }

// operands reads an expression up to the first operator outside parentheses
// that binds less tightly than least.
func (p *parser) operands(depth, least int) part {
	left := p.unary(depth)
	for {
		n := binds(p.next())
		if n < least || n == 0 {
			return left
		}
		op := p.take()
		right := p.operands(depth, n+1)
		left = bare(api.Node{
			Kind: api.Binary, Text: op.Text, From: left.from, To: right.to, At: -1, TypeAt: -1,
			Kids: []api.Node{left.node, right.node},
		})
	}
}

// unary reads a unary of the given depth.
func (p *parser) unary(depth int) part {
	p.within(depth)
	kind := api.Not
	switch {
	case p.is("-"):
		kind = api.Neg
	case !p.is("!"):
		return p.chain(depth)
	}
	op := p.take()
	x := p.unary(depth + 1)
	return bare(api.Node{Kind: kind, From: op.At, To: x.to, At: -1, TypeAt: -1, Kids: []api.Node{x.node}})
}

// chain reads a primary and what follows it behind dots.
func (p *parser) chain(depth int) part {
	x := p.primary(depth)
	for p.is(".") {
		p.take()
		name := p.name()
		n := api.Node{Kind: api.Dot, Text: name.Text, From: x.from, At: name.At, TypeAt: -1, Kids: []api.Node{x.node}}
		if p.is("(") {
			n.Kind = api.DotCall
			n.Kids = append(n.Kids, p.arguments(depth)...)
		}
		n.To = p.to()
		x = bare(n)
	}
	return x
}

// primary reads a primary.
func (p *parser) primary(depth int) part {
	t := p.next()
	n := api.Node{From: t.At, At: -1, TypeAt: -1}
	switch {
	case t.Kind == api.TokName:
		return p.named(depth)
	case t.Kind == api.TokNumber:
		n.Kind = api.Int
		n.N, _ = strconv.ParseInt(t.Text, 10, 64)
	case p.is("true"):
		n.Kind, n.N = api.Bool, 1
	case p.is("false"):
		n.Kind = api.Bool
	case p.is("null"):
		n.Kind = api.Null
	case p.is("this"):
		n.Kind = api.This
	case p.is("new"):
		return p.object()
	case p.is("("):
		return p.nested(depth)
	default:
		p.fail()
	}
	p.take()
	n.To = p.to()
	return bare(n)
}

// named reads a name, or a call of the method with that name.
func (p *parser) named(depth int) part {
	name := p.name()
	n := api.Node{Kind: api.Name, Text: name.Text, From: name.At, At: name.At, TypeAt: -1}
	if p.is("(") {
		n.Kind = api.Call
		n.Kids = p.arguments(depth)
	}
	n.To = p.to()
	return bare(n)
}

// arguments reads the arguments of a call in a unary of the given depth.
func (p *parser) arguments(depth int) []api.Node {
	return p.list(func() api.Node { return p.expression(depth + 1).node })
}

// object reads a new object.
func (p *parser) object() part {
	from := p.expect("new").At
	name := p.name()
	p.expect("(")
	p.expect(")")
	return bare(api.Node{Kind: api.New, Text: name.Text, From: from, To: p.to(), At: name.At, TypeAt: -1})
}

// nested reads an expression in parentheses in a unary of the given depth.
func (p *parser) nested(depth int) part {
	from := p.expect("(").At
	x := p.expression(depth + 1)
	p.expect(")")
	return part{x.node, from, p.to()}
}
