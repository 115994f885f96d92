package parse_test

import (
	"math/rand"
	"slices"
	"strings"
	"testing"

	"concordat/api"
	"concordat/lex"
	"concordat/node"
	"concordat/parse"
)

// grammar is the grammar of the document: rules, each with its alternatives.
// void is only where it is allowed, and a local is never a statement.
const grammar = `
file = | class file
class = "class" NAME above "{" members "}"
above = | "extends" NAME
members = | member members
member = static type NAME "(" params ")" block | static value NAME ";"
static = | "static"
params = | param | param , others
others = param | param , others
param = value NAME
value = "int" | "boolean" | NAME
type = value | "void"
block = "{" items "}"
items = | item items
item = value NAME "=" expression ";" | statement
statement = "return" ";" | block | "if" "(" expression ")" statement else | "while" "(" expression ")" statement | "return" expression ";" | "print" "(" expression ")" ";" | expression ";" | expression "=" expression ";"
else = | "else" statement
expression = unary | unary operator expression
operator = "+" | "-" | "*" | "/" | "%" | "<" | "<=" | ">" | ">=" | "==" | "!=" | "&&" | "||"
unary = primary dots | "!" unary | "-" unary
dots = | "." NAME dots | "." NAME call dots
call = "(" ")" | "(" arguments ")"
arguments = expression | expression , arguments
primary = NUMBER | "true" | "false" | "null" | "this" | NAME | NAME call | "new" NAME "(" ")" | "(" expression ")"
`

// rules returns the alternatives of each rule of the grammar.
func rules() map[string][][]string {
	out := map[string][][]string{}
	for _, line := range strings.Split(strings.TrimSpace(grammar), "\n") {
		name, all, _ := strings.Cut(line, " = ")
		for _, alternative := range strings.Split(strings.ReplaceAll(all, `"||"`, "OR"), "|") {
			out[name] = append(out[name], strings.Fields(strings.ReplaceAll(alternative, ",", `","`)))
		}
	}
	return out
}

// accepts reports whether a token is what a symbol of the grammar asks for.
func accepts(symbol string, t api.Token) bool {
	switch symbol {
	case "NAME":
		return t.Kind == api.TokName
	case "NUMBER":
		return t.Kind == api.TokNumber
	case "OR":
		return t.Text == "||"
	}
	return strings.Trim(symbol, `"`) == t.Text
}

// state is a rule that has been read up to a dot, from a token on.
type state struct {
	rule     string
	alt, dot int
	from     int
}

// closure adds to the states of a token all that follow from them.
func closure(g map[string][][]string, sets [][]state) {
	at := len(sets) - 1
	add := func(s state) {
		if !slices.Contains(sets[at], s) {
			sets[at] = append(sets[at], s)
		}
	}
	for grown := -1; grown < len(sets[at]); {
		grown = len(sets[at])
		for i := 0; i < len(sets[at]); i++ {
			s := sets[at][i]
			body := g[s.rule][s.alt]
			if s.dot < len(body) {
				for alt := range g[body[s.dot]] {
					add(state{body[s.dot], alt, 0, at})
				}
				continue
			}
			for _, up := range slices.Clone(sets[s.from]) {
				if b := g[up.rule][up.alt]; up.dot < len(b) && b[up.dot] == s.rule {
					add(state{up.rule, up.alt, up.dot + 1, up.from})
				}
			}
		}
	}
}

// wrong returns the index of the first token that can't follow those before
// it, or -1 (Earley's algorithm, which knows all that may come next).
func wrong(g map[string][][]string, rule string, l []api.Token) int {
	sets := [][]state{nil}
	for alt := range g[rule] {
		sets[0] = append(sets[0], state{rule, alt, 0, 0})
	}
	for i, t := range l {
		closure(g, sets)
		if t.Kind == api.TokEnd {
			break
		}
		var next []state
		for _, s := range sets[i] {
			if body := g[s.rule][s.alt]; s.dot < len(body) && g[body[s.dot]] == nil && accepts(body[s.dot], t) {
				next = append(next, state{s.rule, s.alt, s.dot + 1, s.from})
			}
		}
		if next == nil {
			return i
		}
		sets = append(sets, next)
	}
	for _, s := range sets[len(sets)-1] {
		if s.rule == rule && s.from == 0 && s.dot == len(g[rule][s.alt]) {
			return -1
		}
	}
	return len(l) - 1
}

// sentence returns the tokens of a random text of a rule.
func sentence(r *rand.Rand, g map[string][][]string, rule string, depth int) []string {
	switch {
	case rule == "NAME":
		return []string{string(rune('a' + r.Intn(5)))}
	case rule == "NUMBER":
		return []string{"7"}
	case rule == "OR":
		return []string{"||"}
	case g[rule] == nil:
		return []string{strings.Trim(rule, `"`)}
	}
	alt := g[rule][r.Intn(len(g[rule]))]
	if depth <= 0 { // the first alternatives lead to the shortest texts
		alt = g[rule][0]
	}
	var out []string
	for _, symbol := range alt {
		out = append(out, sentence(r, g, symbol, depth-1)...)
	}
	return out
}

// separators begin with white space, for what follows an operator /.
var separators = []string{" ", "\n", "\t ", " /*x*/", "\t//y\n", " /**/\r\n"}

// spelt returns tokens as a text with random separators between them.
func spelt(r *rand.Rand, l []string) string {
	s := ""
	for _, t := range l {
		s += separators[r.Intn(len(separators))] + t
	}
	return s
}

// call parses a text by the function for a rule, and returns the trees.
func call(rule, text string) ([]api.Node, api.Mistake) {
	var n api.Node
	var m api.Mistake
	switch rule {
	case "file":
		return parse.File(text)
	case "member":
		n, m = parse.Member(text)
	case "item":
		n, m = parse.Statement(text)
	default:
		n, m = parse.Expression(text)
	}
	return []api.Node{n}, m
}

// P12.1, P12.2: the first wrong token of texts that are nearly right.
func TestGrammar(t *testing.T) {
	r := rand.New(rand.NewSource(14))
	g := rules()
	terminals := strings.Fields("class extends static void int boolean if else while return print true false null this new == + - ! = ( ) { } ; , . a b 1")
	right := 0
	for i := range 3000 {
		rule := []string{"file", "member", "item", "expression"}[i%4]
		l := sentence(r, g, rule, 7)
		if len(l) > 60 {
			continue
		}
		for range r.Intn(3) {
			at := r.Intn(len(l) + 1)
			l = slices.Concat(l[:at], []string{terminals[r.Intn(len(terminals))]}, l[min(len(l), at+r.Intn(2)):])
		}
		text := spelt(r, l)
		tokens, _, _ := lex.Lex(text)
		want := api.Mistake{}
		if at := wrong(g, rule, tokens); at >= 0 {
			want = api.Mistake{Code: api.ErrSyntax, At: tokens[at].At}
		} else {
			right++
		}
		if _, m := call(rule, text); m != want {
			t.Fatalf("%s %q: %v, want %v", rule, strings.Join(l, " "), m, want)
		}
	}
	if right < 500 {
		t.Errorf("only %d texts were right", right)
	}
}

// P12.3
func TestConsequences(t *testing.T) {
	r := rand.New(rand.NewSource(15))
	g := rules()
	for i := range 3000 {
		rule := []string{"file", "member", "item", "expression"}[i%4]
		l := sentence(r, g, rule, 9)
		text := spelt(r, l)
		nodes, m := call(rule, text)
		if m.Code != api.OK {
			t.Fatalf("%q: %v", text, m)
		}
		others, _ := call(rule, strings.Join(l, " "))
		if !slices.EqualFunc(nodes, others, node.Same) {
			t.Fatalf("%q: other separators, another tree", text)
		}
		tokens, _, _ := lex.Lex(text)
		begins, ends := map[int]bool{}, map[int]bool{}
		for _, k := range tokens {
			begins[k.At], ends[k.At+len(k.Text)] = true, true
		}
		for _, n := range nodes {
			positions(t, text, n, begins, ends)
		}
	}
}

// positions checks the positions of a tree.
func positions(t *testing.T, text string, n api.Node, begins, ends map[int]bool) {
	t.Helper()
	named := slices.Contains([]int{api.Class, api.Field, api.Method, api.Param, api.Local, api.Name, api.Dot, api.Call, api.DotCall, api.New}, n.Kind)
	if !begins[n.From] || !ends[n.To] || n.From >= n.To {
		t.Fatalf("%q: %v", text, n)
	}
	if named != (n.At >= 0) || named && (n.At < n.From || !strings.HasPrefix(text[n.At:n.To], n.Text)) {
		t.Fatalf("%q: %v", text, n)
	}
	if (n.Type != "") != (n.TypeAt >= 0) || n.TypeAt >= 0 && (n.TypeAt < n.From || !strings.HasPrefix(text[n.TypeAt:n.To], n.Type)) {
		t.Fatalf("%q: %v", text, n)
	}
	at := n.From
	for _, kid := range n.Kids {
		if kid.From < at || kid.To > n.To {
			t.Fatalf("%q: %v", text, n)
		}
		at = kid.To
		positions(t, text, kid, begins, ends)
	}
}
