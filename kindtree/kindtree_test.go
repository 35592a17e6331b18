package kindtree_test

import (
	"testing"

	"halfplane/api"
	"halfplane/expr"
	"halfplane/kind"
	"halfplane/kindtree"
)

// parse returns the expression of a text.
func parse(t *testing.T, s string) api.Expr {
	t.Helper()
	e, _, code := expr.Parse(s)
	if code != api.OK {
		t.Fatalf("Parse(%q): %d", s, code)
	}
	return e
}

// checkNode checks the kinds of a node and of all nodes below it.
func checkNode(t *testing.T, n kindtree.Node, defs []api.Binding) {
	t.Helper()
	if k, code := kind.Of(n.Expr, defs); k != n.Kind || code != api.OK {
		t.Errorf("%v: %v, but %v, %d", n.Expr, n.Kind, k, code)
	}
	if n.Expr.Op == api.OpName {
		if len(n.Args) != 1 || n.Args[0].Kind != n.Kind {
			t.Errorf("the name %s: %v", n.Expr.Name, n.Args)
		}
	} else if len(n.Args) != len(n.Expr.Args) {
		t.Errorf("%v has %d nodes", n.Expr, len(n.Args))
	}
	for _, a := range n.Args {
		checkNode(t, a, defs)
	}
}

func TestOf(t *testing.T) {
	defs := []api.Binding{{Name: "f", Expr: parse(t, "eta(11)[2, 2]*V(2, j)")}, {Name: "g", Expr: parse(t, "f^2 + U(3, f)*G(2, 1, 1, 2)")}}
	if n, code := kindtree.Of(parse(t, "f + E4*f"), defs); code != api.ErrKind || n.Args != nil {
		t.Errorf("weights that differ: %d", code)
	}
	n, code := kindtree.Of(parse(t, "bracket(2, serre(f), twist(-3, g)*E4^0) + T(2, g*E4^2)*0 + j*E4*f^3*theta(2)[2, 0, 0, 2]^2*0"), defs)
	if code != api.OK || n.Kind.Weight != 12 {
		t.Fatalf("%v, %d", n.Kind, code)
	}
	checkNode(t, n, defs)
}

func TestParts(t *testing.T) {
	if e := kindtree.Eta(parse(t, "eta(2)[8, -16]")); e.Level != 2 || len(e.Exps) != 2 || e.Exps[1] != -16 {
		t.Errorf("Eta: %v", e)
	}
	if g := kindtree.Gram(parse(t, "theta(1)[2]")); g.Rank != 1 || len(g.A) != 1 || g.A[0] != 2 {
		t.Errorf("Gram: %v", g)
	}
	if s := kindtree.Spec(parse(t, "newform(23, 3, -23, 1)")); s != (api.Spec{Level: 23, Weight: 3, Disc: -23}) {
		t.Errorf("Spec: %v", s)
	}
	if s := kindtree.Space(api.FormKind{Weight: 3, Level: 23, Disc: -23, Pole: 7}); s != (api.Spec{Level: 23, Weight: 3, Disc: -23}) {
		t.Errorf("Space: %v", s)
	}
}
