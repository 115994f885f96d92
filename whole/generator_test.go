// Package whole_test holds tests of promises that go through several layers,
// for programs that are made at random.
package whole_test

import (
	"fmt"
	"math/rand"
	"slices"
	"strings"

	"concordat/api"
	"concordat/check"
	"concordat/parse"
	"concordat/run"
)

// A program before it is printed.
type (
	variable struct {
		name, kind string
		static     bool
	}
	method struct {
		variable
		params []variable
		body   string
	}
	class struct {
		name    string
		above   *class
		fields  []variable
		methods []*method
		file    int
	}
	program struct {
		classes []*class
	}
)

// maker makes random programs.
type maker struct {
	*rand.Rand
	p      program
	class  *class
	method *method
	seen   []variable
	loops  int
}

func (m *maker) pick(l ...string) string { return l[m.Intn(len(l))] }

// chance reports true once in n times.
func (m *maker) chance(n int) bool { return m.Intn(n) == 0 }

// kind returns a random type of a value.
func (m *maker) kind() string {
	if m.chance(3) {
		return m.p.classes[m.Intn(len(m.p.classes))].name
	}
	return m.pick("int", "int", "boolean")
}

// find returns the class with a name.
func (p program) find(name string) *class {
	for _, c := range p.classes {
		if c.name == name {
			return c
		}
	}
	return nil
}

// up returns c and the classes above it.
func (c *class) up() []*class {
	var l []*class
	for ; c != nil; c = c.above {
		l = append(l, c)
	}
	return l
}

// below reports whether the class from is to, or below it.
func (p program) below(from, to string) bool {
	c := p.find(from)
	return c != nil && slices.ContainsFunc(c.up(), func(d *class) bool { return d.name == to })
}

// makes returns a random program.
func makes(r *rand.Rand) program {
	m := &maker{Rand: r}
	for i, name := range []string{"Main", "A", "B", "C", "D"}[:2+r.Intn(4)] {
		c := &class{name: name, file: r.Intn(3)}
		if i > 1 && r.Intn(3) > 0 {
			c.above = m.p.classes[1+r.Intn(i-1)]
		}
		m.p.classes = append(m.p.classes, c)
	}
	for i, c := range m.p.classes {
		m.members(c, i)
	}
	for _, c := range m.p.classes {
		for _, x := range c.methods {
			m.fill(c, x)
		}
	}
	return m.p
}

// members adds the members of a class, without bodies. Fields have names that
// no class above has; some methods override others.
func (m *maker) members(c *class, i int) {
	for k := range m.Intn(4) {
		name := fmt.Sprintf("%s%d%d", m.pick("f", "g"), i, k)
		c.fields = append(c.fields, variable{name, m.kind(), m.chance(3)})
	}
	for k := range m.Intn(4) {
		x := &method{variable: variable{fmt.Sprintf("%s%d%d", m.pick("m", "n"), i, k), m.kind(), m.chance(3)}}
		if m.chance(4) {
			x.kind = "void"
		}
		for range m.Intn(3) {
			x.params = append(x.params, variable{name: fmt.Sprintf("p%d", len(x.params)), kind: m.kind()})
		}
		c.methods = append(c.methods, x)
	}
	for _, up := range c.up()[1:] {
		for _, x := range up.methods {
			if m.chance(2) && !slices.ContainsFunc(c.methods, func(y *method) bool { return y.name == x.name }) {
				y := *x
				y.params = slices.Clone(x.params)
				c.methods = append(c.methods, &y)
			}
		}
	}
	if c.name == "Main" {
		c.methods = append(c.methods, &method{variable: variable{"main", "void", true}})
	}
}

// fill gives a method a body.
func (m *maker) fill(c *class, x *method) {
	m.class, m.method, m.seen, m.loops = c, x, slices.Clone(x.params), 0
	var b strings.Builder
	many := 1 + m.Intn(4)
	if x.name == "main" {
		many = 8
	}
	for range many {
		b.WriteString(m.statement(2, "    "))
	}
	if x.kind != "void" {
		b.WriteString("    return " + m.expression(x.kind, 2) + ";\n")
	}
	x.body = b.String()
}

// statement returns a random statement as lines behind ahead.
func (m *maker) statement(depth int, ahead string) string {
	if depth == 0 || m.chance(2) {
		return ahead + m.simple() + "\n"
	}
	inner := func() string {
		seen := slices.Clone(m.seen)
		s := ""
		for range 1 + m.Intn(2) {
			s += m.statement(depth-1, ahead+"  ")
		}
		m.seen = seen
		return s
	}
	switch m.Intn(3) {
	case 0:
		s := ahead + "if (" + m.expression("boolean", 2) + ") {\n" + inner() + ahead + "}"
		if m.chance(2) {
			s += " else {\n" + inner() + ahead + "}"
		}
		return s + "\n"
	case 1:
		i := fmt.Sprintf("i%d", m.loops)
		m.loops++
		m.seen = append(m.seen, variable{name: i, kind: "int"})
		return ahead + "int " + i + " = 0;\n" + ahead + "while (" + i + " < " + m.pick("1", "2", "3") + ") {\n" + ahead + "  " + i + " = " + i + " + 1;\n" + inner() + ahead + "}\n"
	}
	return ahead + "{\n" + inner() + ahead + "}\n"
}

// simple returns a random statement without statements inside it.
func (m *maker) simple() string {
	switch m.Intn(5) {
	case 0:
		kind := m.kind()
		s := m.expression(kind, 2)
		name := fmt.Sprintf("v%d", len(m.seen))
		m.seen = append(m.seen, variable{name: name, kind: kind})
		return kind + " " + name + " = " + s + ";"
	case 1:
		if l := m.calls(""); len(l) > 0 {
			return l[m.Intn(len(l))] + ";"
		}
	case 2, 3:
		kind := m.kind()
		if l := m.places(kind, false); len(l) > 0 {
			return l[m.Intn(len(l))] + " = " + m.expression(kind, 2) + ";"
		}
	}
	return "print(" + m.expression(m.pick("int", "boolean"), 3) + ");"
}

// expression returns a random expression that may stand where a value of a
// kind is asked for.
func (m *maker) expression(kind string, depth int) string {
	if depth > 0 && m.chance(2) {
		if l := m.calls(kind); len(l) > 0 {
			return l[m.Intn(len(l))]
		}
	}
	if l := m.places(kind, true); len(l) > 0 && m.chance(2) {
		return l[m.Intn(len(l))]
	}
	switch {
	case kind == "int" && depth > 0:
		return m.pick(m.expression("int", depth-1)+" "+m.pick("+", "-", "*", "/", "%")+" "+m.expression("int", depth-1), "-"+m.expression("int", 0), "("+m.expression("int", depth-1)+")")
	case kind == "int":
		return m.pick("0", "1", "2", "7")
	case kind == "boolean" && depth > 0:
		other := m.kind()
		return m.pick("!("+m.expression("boolean", depth-1)+")", m.expression("int", depth-1)+m.pick(" < ", " >= ", " == ")+m.expression("int", depth-1), "("+m.expression("boolean", depth-1)+m.pick(" && ", " || ")+m.expression("boolean", depth-1)+")", "("+m.expression(other, 0)+" == "+m.expression(other, 0)+")")
	case kind == "boolean":
		return m.pick("true", "false")
	}
	if !m.method.static && m.p.below(m.class.name, kind) && m.chance(2) {
		return "this"
	}
	var l []string
	for _, c := range m.p.classes {
		if m.p.below(c.name, kind) {
			l = append(l, "new "+c.name+"()")
		}
	}
	if m.chance(5) {
		return "null"
	}
	return m.pick(l...)
}

// fits reports whether a value of the kind from may be used, or a variable of
// it set, where the kind to is asked for.
func (m *maker) fits(from, to string, used bool) bool {
	if !used {
		from, to = to, from
	}
	return from == to || m.p.below(from, to)
}

// objects returns what may stand before a dot, with its class; a class by its
// own name only if what is behind the dot is static.
func (m *maker) objects(static bool) map[string]*class {
	out := map[string]*class{}
	for _, c := range m.p.classes {
		if static {
			out[c.name] = c
		}
	}
	for _, v := range m.seen {
		if c := m.p.find(v.kind); c != nil {
			out[v.name] = c
		}
	}
	if !m.method.static {
		out["this"] = m.class
	}
	return out
}

// places returns the locals and fields of a kind, sorted.
func (m *maker) places(kind string, used bool) []string {
	var l []string
	for _, v := range m.seen {
		if m.fits(v.kind, kind, used) && !strings.HasPrefix(v.name, "i") {
			l = append(l, v.name)
		}
	}
	for _, c := range m.class.up() {
		for _, f := range c.fields {
			if m.fits(f.kind, kind, used) && (f.static || !m.method.static) {
				l = append(l, f.name)
			}
		}
	}
	for _, static := range []bool{false, true} {
		for object, class := range m.objects(static) {
			for _, c := range class.up() {
				for _, f := range c.fields {
					if m.fits(f.kind, kind, used) && (f.static || !static) {
						l = append(l, object+"."+f.name)
					}
				}
			}
		}
	}
	slices.Sort(l)
	return l
}

// calls returns calls whose values fit a kind, or, if it is empty, all calls,
// sorted.
func (m *maker) calls(kind string) []string {
	var l []string
	add := func(before string, class *class, static bool) {
		var known []string
		for _, c := range class.up() {
			for _, x := range c.methods {
				if slices.Contains(known, x.name) || x.name == "main" || static && !x.static || kind != "" && !m.fits(x.kind, kind, true) {
					continue
				}
				known = append(known, x.name)
				var arguments []string
				for _, p := range x.params {
					arguments = append(arguments, m.expression(p.kind, 0))
				}
				l = append(l, before+x.name+"("+strings.Join(arguments, ", ")+")")
			}
		}
	}
	add("", m.class, m.method.static)
	for _, static := range []bool{false, true} {
		objects := m.objects(static)
		for _, name := range slices.Sorted(func(yield func(string) bool) {
			for name := range objects {
				if !yield(name) {
					return
				}
			}
		}) {
			add(name+".", objects[name], static && m.p.find(name) != nil)
		}
	}
	slices.Sort(l)
	return l
}

// text prints a class.
func (c *class) text() string {
	s := "class " + c.name
	if c.above != nil {
		s += " extends " + c.above.name
	}
	s += " {\n"
	word := func(v variable) string {
		if v.static {
			return "static " + v.kind
		}
		return v.kind
	}
	for _, f := range c.fields {
		s += "  " + word(f) + " " + f.name + ";\n"
	}
	for _, x := range c.methods {
		var params []string
		for _, p := range x.params {
			params = append(params, p.kind+" "+p.name)
		}
		s += "\n  " + word(x.variable) + " " + x.name + "(" + strings.Join(params, ", ") + ") {\n" + x.body + "  }\n"
	}
	return s + "}\n"
}

// tree prints a program as a tree of at most three files.
func (p program) tree() []api.File {
	l := []api.File{{Path: "a"}, {Path: "b"}, {Path: "c"}}
	for _, c := range p.classes {
		l[c.file].Text += c.text()
	}
	return slices.DeleteFunc(l, func(f api.File) bool { return f.Text == "" })
}

// tries returns a random program as a tree, and whether it is one; what is made
// is nearly always one.
func tries(r *rand.Rand) ([]api.File, program, bool) {
	p := makes(r)
	l := p.tree()
	return l, p, check.Tree(l).Code == api.OK
}

// ran runs a tree.
func ran(l []api.File) run.Result {
	var files [][]api.Node
	for _, f := range l {
		n, _ := parse.File(f.Text)
		files = append(files, n)
	}
	return run.Program(files, 3000)
}

// clone returns a copy of p that shares nothing with it.
func (p program) clone() program {
	var out program
	for _, c := range p.classes {
		d := &class{name: c.name, fields: slices.Clone(c.fields), file: c.file}
		if c.above != nil {
			d.above = out.find(c.above.name)
		}
		for _, x := range c.methods {
			y := *x
			y.params = slices.Clone(x.params)
			d.methods = append(d.methods, &y)
		}
		out.classes = append(out.classes, d)
	}
	return out
}

// changed returns p with some changes other than renames and moves: bodies and
// types that are others, members that are new, gone, or elsewhere in their
// class.
func (p program) changed(r *rand.Rand) program {
	m := &maker{Rand: r, p: p.clone()}
	for range 1 + r.Intn(4) {
		c := m.p.classes[r.Intn(len(m.p.classes))]
		switch r.Intn(6) {
		case 0:
			c.fields = slices.Insert(c.fields, r.Intn(len(c.fields)+1), variable{fmt.Sprintf("h%d", r.Intn(1000)), m.kind(), m.chance(3)})
		case 1:
			x := &method{variable: variable{fmt.Sprintf("k%d", r.Intn(1000)), m.kind(), m.chance(3)}}
			c.methods = slices.Insert(c.methods, r.Intn(len(c.methods)+1), x)
			m.fill(c, x)
		case 2:
			r.Shuffle(len(c.methods), func(i, k int) { c.methods[i], c.methods[k] = c.methods[k], c.methods[i] })
		case 3:
			if len(c.fields) > 0 {
				i := r.Intn(len(c.fields))
				c.fields = slices.Delete(c.fields, i, i+1)
			}
		default:
			if len(c.methods) > 0 {
				m.fill(c, c.methods[r.Intn(len(c.methods))])
			}
		}
	}
	return m.p
}
