package print

import (
	"strings"

	"concordat/api"
)

// indent is by how much an inner line is indented more than the outer one.
const indent = "  "

// line returns a statement as a piece that begins a line.
func line(n *api.Node, ahead string) piece {
	return piece{form: statement, node: n, ahead: ahead}
}

// braces returns statements between braces, the second of which stands behind
// ahead.
func braces(kids []api.Node, ahead string) []piece {
	l := []piece{literal("{\n")}
	for i := range kids {
		l = append(l, line(&kids[i], ahead+indent))
	}
	return append(l, literal(ahead+"}"))
}

// body returns a statement between braces; a missing one leaves them empty.
func body(n *api.Node, ahead string) []piece {
	switch {
	case n == nil:
		return braces(nil, ahead)
	case n.Kind == api.Block:
		return braces(n.Kids, ahead)
	}
	return []piece{literal("{\n"), line(n, ahead+indent), literal(ahead + "}")}
}

// statement returns the pieces of a statement and of the line that it begins.
func statement(p piece) []piece {
	inner := inside(p.node, p.ahead)
	if inner == nil {
		return nil
	}
	return joined([]piece{literal(p.ahead)}, inner, []piece{literal("\n")})
}

// inside returns the pieces of a statement without what begins and ends its
// line, and nothing for other nodes.
func inside(n *api.Node, ahead string) []piece {
	part := func(i int) []piece { return operand(kid(n, i), 0) }
	block := func(i int) []piece { return body(kid(n, i), ahead) }
	word := func(s string) []piece { return []piece{literal(s)} }
	switch n.Kind {
	case api.Local:
		return joined(word(n.Type+" "+n.Text+" = "), part(0), word(";"))
	case api.Set:
		return joined(part(0), word(" = "), part(1), word(";"))
	case api.Do:
		return joined(part(0), word(";"))
	case api.Return:
		if len(n.Kids) == 0 {
			return word("return;")
		}
		return joined(word("return "), part(0), word(";"))
	case api.Print:
		return joined(word("print("), part(0), word(");"))
	case api.While:
		return joined(word("while ("), part(0), word(") "), block(1))
	case api.If:
		l := joined(word("if ("), part(0), word(") "), block(1))
		if len(n.Kids) > 2 {
			l = joined(l, word(" else "), block(2))
		}
		return l
	case api.Block:
		return braces(n.Kids, ahead)
	}
	return nil
}

// Statement returns the lines of a statement, each behind ahead.
func Statement(n api.Node, ahead string) string { return text(line(&n, ahead)) }

// member returns the pieces of a field or a method, and of its lines.
func member(p piece) []piece {
	n := p.node
	if n.Kind != api.Field && n.Kind != api.Method {
		return nil
	}
	head := indent
	if n.N == 1 {
		head += "static "
	}
	head += n.Type + " " + n.Text
	if n.Kind == api.Field {
		return []piece{literal(head + ";\n")}
	}
	var params []string
	var block *api.Node
	for i := range n.Kids {
		if block != nil {
			params = append(params, block.Type+" "+block.Text)
		}
		block = &n.Kids[i]
	}
	return joined([]piece{literal(head + "(" + strings.Join(params, ", ") + ") ")}, body(block, indent), []piece{literal("\n")})
}

// Member returns the lines of a field or a method.
func Member(n api.Node) string { return text(piece{form: member, node: &n}) }

// class returns the pieces of a class.
func class(n *api.Node) []piece {
	head := "class " + n.Text
	if n.Type != "" {
		head += " extends " + n.Type
	}
	l := []piece{literal(head + " {\n")}
	for i := range n.Kids {
		l = append(l, piece{form: member, node: &n.Kids[i]})
	}
	return append(l, literal("}\n"))
}

// Class returns the lines of a class.
func Class(n api.Node) string { return text(class(&n)...) }

// File returns the lines of classes, with an empty line between two of them.
func File(l []api.Node) string {
	var pieces []piece
	for i := range l {
		if i > 0 {
			pieces = append(pieces, literal("\n"))
		}
		pieces = append(pieces, class(&l[i])...)
	}
	return text(pieces...)
}
