package dag

import (
	"go/ast"
	"go/parser"
	"go/token"
	"testing"
)

// source is what dag.go declares, by the functions' names.
func source(t *testing.T) map[string]*ast.FuncDecl {
	t.Helper()
	file, err := parser.ParseFile(token.NewFileSet(), "dag.go", nil, 0)
	if err != nil {
		t.Fatal(err)
	}
	all := map[string]*ast.FuncDecl{}
	for _, d := range file.Decls {
		if f, ok := d.(*ast.FuncDecl); ok {
			all[f.Name.Name] = f
		}
	}
	return all
}

// finds: is there a part of the tree that is so?
func finds(n ast.Node, so func(ast.Node) bool) bool {
	found := false
	ast.Inspect(n, func(m ast.Node) bool {
		found = found || m != nil && so(m)
		return !found
	})
	return found
}

func calls(n ast.Node, name string) bool {
	return finds(n, func(m ast.Node) bool {
		c, ok := m.(*ast.CallExpr)
		if !ok {
			return false
		}
		f, ok := c.Fun.(*ast.Ident)
		return ok && f.Name == name
	})
}

func TestWaysRanksAreMadeByAGenericFunction(t *testing.T) {
	all := source(t)
	if f := all["ranks"]; f == nil || f.Type.TypeParams == nil {
		t.Error("ranks is no generic function")
	}
	if !calls(all["Ranks"], "ranks") {
		t.Error("Ranks doesn't call the generic function")
	}
}

func TestWaysArcsThatMayNotBeAreLookedForByAClosure(t *testing.T) {
	all := source(t)
	if !calls(all["Check"], "Order") || !calls(all["Order"], "mayBe") {
		t.Error("Check or Order doesn't ask whether the graph may be")
	}
	ofArc := func(m ast.Node) bool {
		f, ok := m.(*ast.FuncLit)
		return ok && finds(f.Type.Params, func(p ast.Node) bool {
			s, ok := p.(*ast.SelectorExpr)
			return ok && s.Sel.Name == "Arc"
		})
	}
	if !finds(all["mayBe"], ofArc) {
		t.Error("no closure looks at the arcs")
	}
}
