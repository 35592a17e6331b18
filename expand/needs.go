package expand

import (
	"halfplane/api"
	"halfplane/kindtree"
)

// maxAsked is the greatest precision that a node may be asked for.
const maxAsked = api.MaxPrec - 2*api.MaxPole

// needs finds the precisions that atoms are asked for.
type needs struct {
	names kept[asked, int]
}

// of returns the greatest precision that an atom of a node is asked for.
func (s *needs) of(n kindtree.Node, prec int) (int, api.Errno) {
	if prec > maxAsked {
		return 0, api.ErrLarge
	}
	if n.Expr.Op == api.OpName {
		return s.names.get(asked{n.Expr.Name, prec}, func() (int, api.Errno) {
			return s.of(n.Args[0], prec)
		})
	}
	if isAtom(n) {
		return prec, api.OK
	}
	most := 0
	for i, a := range n.Args {
		m, code := s.of(a, argumentPrec(n, i, prec))
		if code != api.OK {
			return 0, code
		}
		most = max(most, m)
	}
	return most, api.OK
}

// isAtom reports whether nothing is asked of arguments of a node.
func isAtom(n kindtree.Node) bool {
	return len(n.Args) == 0 || n.Expr.Op == api.OpPower && n.Expr.N[0] <= 0
}

// argumentPrec returns the precision that argument i of a node is asked for, if the node is
// asked for prec.
func argumentPrec(n kindtree.Node, i, prec int) int {
	switch n.Expr.Op {
	case api.OpProduct, api.OpBracket:
		return prec + poles(n.Args) - n.Args[i].Kind.Pole
	case api.OpPower:
		return prec + (n.Expr.N[0]-1)*n.Args[i].Kind.Pole
	case api.OpV:
		d := n.Expr.N[0]
		return (prec + d - 1) / d
	case api.OpU, api.OpT:
		return n.Expr.N[0]*(prec-1) + 1
	}
	return prec
}

// poles returns the sum of the poles of the kinds of nodes.
func poles(l []kindtree.Node) int {
	sum := 0
	for _, a := range l {
		sum += a.Kind.Pole
	}
	return sum
}
