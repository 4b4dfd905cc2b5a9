package text

import (
	"strings"

	"copse/api"
	"copse/dec"
	"copse/node"
)

// reader goes through a text from its front on. Once it has failed it stays so, and what it goes on to read means nothing.
type reader struct {
	rest   string
	failed bool
}

// model is the model that a printed text was made of, and some model of any other text.
func (r *reader) model() api.Model {
	var m api.Model
	m.Dim = r.small("forest ")
	m.Classes = r.small(" ")
	r.take("\nbias")
	for class := range min(m.Classes, api.MaxClasses) {
		m.Bias[class] = r.number(" ")
	}
	r.take("\n")
	for !r.failed && r.rest != "" && len(m.Trees) < api.MaxTrees {
		m.Trees = append(m.Trees, r.tree())
	}
	return m
}

func (r *reader) tree() api.Tree {
	var t api.Tree
	t.Class = r.small("tree ")
	count := r.small(" ")
	r.take("\n")
	for !r.failed && len(t.Nodes) < count {
		t.Nodes = append(t.Nodes, node.Pack(r.node()))
	}
	return t
}

func (r *reader) node() api.Node {
	var n api.Node
	if n.Leaf = strings.HasPrefix(r.rest, "leaf"); n.Leaf {
		n.Value = r.number("leaf ")
	} else {
		n.Feature = r.small("if ")
		n.At = r.number(" <= ")
		n.Left = r.small(" then ")
		n.Right = r.small(" else ")
	}
	r.take("\n")
	return n
}

// take goes past the words, and fails where others stand.
func (r *reader) take(words string) {
	rest, ok := strings.CutPrefix(r.rest, words)
	r.rest, r.failed = rest, r.failed || !ok
}

// small is the number of digits alone behind the words. It fails above MaxNodes, which no such number of a right model is,
// so that none grows too great for an int and no count asks for more nodes than a tree may have.
func (r *reader) small(words string) int {
	r.take(words)
	n := 0
	for !r.failed && r.rest != "" && isDigit(r.rest[0]) {
		n = n*10 + int(r.rest[0]-'0')
		r.rest, r.failed = r.rest[1:], n > api.MaxNodes
	}
	return n
}

// number is the number with a point behind the words, to the next blank or the line's end.
func (r *reader) number(words string) int {
	r.take(words)
	end := 0
	for end < len(r.rest) && r.rest[end] != ' ' && r.rest[end] != '\n' {
		end++
	}
	n, ok := dec.Scan(r.rest[:end])
	r.rest, r.failed = r.rest[end:], r.failed || !ok
	return n
}

func isDigit(b byte) bool {
	return b >= '0' && b <= '9'
}
