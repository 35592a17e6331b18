// Package kindtree finds the kinds of expressions and of all expressions in them. It is no
// layer of the document: layer 53 tells the kind of the whole, and layer 54 needs the kinds
// of the arguments of every operation, which all are found in one walk.
package kindtree

import (
	"halfplane/api"
	"halfplane/expr"
)

// Node is an expression with its kind. Args are the nodes of its arguments; a name has one,
// which is that of its definition.
type Node struct {
	Expr api.Expr
	Kind api.FormKind
	Args []Node
}

// Scope contains the nodes of definitions by their names.
type Scope map[string]Node

// Read returns the nodes of definitions, or the first error of one of them.
func Read(defs []api.Binding) (Scope, api.Errno) {
	if len(defs) > api.MaxNames {
		return nil, api.ErrLarge
	}
	s := Scope{}
	for _, d := range defs {
		if !expr.IsName(d.Name) {
			return nil, api.ErrForm
		}
		if _, ok := s[d.Name]; ok {
			return nil, api.ErrExists
		}
		n, code := s.Node(d.Expr)
		if code != api.OK {
			return nil, code
		}
		s[d.Name] = n
	}
	return s, api.OK
}

// Of returns the node of an expression, or the first error of the definitions or of the
// expression.
func Of(e api.Expr, defs []api.Binding) (Node, api.Errno) {
	s, code := Read(defs)
	if code != api.OK {
		return Node{}, code
	}
	return s.Node(e)
}

// Node returns the node of an expression that uses names of the scope.
func (s Scope) Node(e api.Expr) (Node, api.Errno) {
	if code := expr.Check(e); code != api.OK {
		return Node{}, code
	}
	return s.node(e)
}

// node returns the node of a valid expression.
func (s Scope) node(e api.Expr) (Node, api.Errno) {
	n := Node{Expr: e}
	for _, x := range e.Args {
		a, code := s.node(x)
		if code != api.OK {
			return Node{}, code
		}
		n.Args = append(n.Args, a)
	}
	if e.Op == api.OpName {
		d, ok := s[e.Name]
		if !ok {
			return Node{}, api.ErrMissing
		}
		n.Args = []Node{d}
	}
	k, code := n.rule()
	if code != api.OK {
		return Node{}, code
	}
	if !IsValid(k) {
		return Node{}, api.ErrLarge
	}
	n.Kind = k
	return n, api.OK
}
