package parse

import "concordat/api"

// class reads a class.
func (p *parser) class() api.Node {
	n := api.Node{Kind: api.Class, From: p.expect("class").At, TypeAt: -1}
	name := p.name()
	n.Text, n.At = name.Text, name.At
	if p.is("extends") {
		p.take()
		above := p.name()
		n.Type, n.TypeAt = above.Text, above.At
	}
	p.expect("{")
	for !p.is("}") {
		n.Kids = append(n.Kids, p.member())
	}
	p.take()
	n.To = p.to()
	return n
}

// typed reads a type and a name.
func (p *parser) typed(kind int) api.Node {
	t := p.next()
	if t.Kind != api.TokName && !p.is("int") && !p.is("boolean") && !p.is("void") {
		p.fail()
	}
	p.take()
	name := p.name()
	return api.Node{Kind: kind, Text: name.Text, Type: t.Text, From: t.At, To: p.to(), At: name.At, TypeAt: t.At}
}

// member reads a field or a method.
func (p *parser) member() api.Node {
	from, static := p.next().At, int64(0)
	if p.is("static") {
		p.take()
		static = 1
	}
	n := p.typed(api.Field)
	n.From, n.N = from, static
	if p.is(";") && n.Type != "void" {
		p.take()
		n.To = p.to()
		return n
	}
	n.Kind = api.Method
	n.Kids = append(p.list(p.param), p.block(1))
	n.To = p.to()
	return n
}

// param reads a parameter.
func (p *parser) param() api.Node {
	if p.is("void") {
		p.fail()
	}
	return p.typed(api.Param)
}
