package parse

import "concordat/api"

// statements returns the parsers of the statements that their first token
// tells from all others.
func statements() map[string]func(*parser, int) api.Node {
	return map[string]func(*parser, int) api.Node{
		"{":      (*parser).block,
		"if":     (*parser).branch,
		"while":  (*parser).loop,
		"return": (*parser).result,
		"print":  (*parser).output,
	}
}

// block reads a block of the given depth.
func (p *parser) block(depth int) api.Node {
	n := api.Node{Kind: api.Block, From: p.expect("{").At, At: -1, TypeAt: -1}
	for !p.is("}") {
		n.Kids = append(n.Kids, p.item(depth+1))
	}
	p.take()
	n.To = p.to()
	return n
}

// item reads a local or a statement.
func (p *parser) item(depth int) api.Node {
	p.within(depth)
	t := p.next()
	if p.is("int") || p.is("boolean") || p.is("void") || t.Kind == api.TokName && p.l[p.at+1].Kind == api.TokName {
		return p.local(depth)
	}
	return p.statement(depth)
}

// local reads a local.
func (p *parser) local(depth int) api.Node {
	if p.is("void") {
		p.fail()
	}
	n := p.typed(api.Local)
	p.expect("=")
	n.Kids = []api.Node{p.expression(depth + 1).node}
	p.expect(";")
	n.To = p.to()
	return n
}

// statement reads a statement.
func (p *parser) statement(depth int) api.Node {
	p.within(depth)
	if read, is := p.statements[p.next().Text]; is {
		return read(p, depth)
	}
	return p.simple(depth)
}

// begin reads the keyword of a statement, and returns its node without Kids.
func (p *parser) begin(kind int) api.Node {
	return api.Node{Kind: kind, From: p.take().At, At: -1, TypeAt: -1}
}

// enclosed reads an expression between parentheses that belong to the
// statement around it.
func (p *parser) enclosed(depth int) api.Node {
	p.expect("(")
	n := p.expression(depth).node
	p.expect(")")
	return n
}

// branch reads an if.
func (p *parser) branch(depth int) api.Node {
	n := p.begin(api.If)
	n.Kids = []api.Node{p.enclosed(depth + 1), p.statement(depth + 1)}
	if p.is("else") {
		p.take()
		n.Kids = append(n.Kids, p.statement(depth+1))
	}
	n.To = p.to()
	return n
}

// loop reads a while.
func (p *parser) loop(depth int) api.Node {
	n := p.begin(api.While)
	n.Kids = []api.Node{p.enclosed(depth + 1), p.statement(depth + 1)}
	n.To = p.to()
	return n
}

// result reads a return.
func (p *parser) result(depth int) api.Node {
	n := p.begin(api.Return)
	if !p.is(";") {
		n.Kids = []api.Node{p.expression(depth + 1).node}
	}
	p.expect(";")
	n.To = p.to()
	return n
}

// output reads a print.
func (p *parser) output(depth int) api.Node {
	n := p.begin(api.Print)
	n.Kids = []api.Node{p.enclosed(depth + 1)}
	p.expect(";")
	n.To = p.to()
	return n
}

// simple reads an assignment, or an expression that is a statement.
func (p *parser) simple(depth int) api.Node {
	x := p.expression(depth + 1)
	n := api.Node{Kind: api.Do, From: x.from, At: -1, TypeAt: -1, Kids: []api.Node{x.node}}
	if p.is("=") {
		p.take()
		n.Kind = api.Set
		n.Kids = append(n.Kids, p.expression(depth+1).node)
	}
	p.expect(";")
	n.To = p.to()
	return n
}
