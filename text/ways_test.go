package text

import (
	"go/ast"
	"go/parser"
	"go/token"
	"testing"
)

// functions of text.go by their names.
func functions(t *testing.T) map[string]*ast.FuncDecl {
	t.Helper()
	file, err := parser.ParseFile(token.NewFileSet(), "text.go", nil, 0)
	if err != nil {
		t.Fatal(err)
	}
	all := map[string]*ast.FuncDecl{}
	for _, d := range file.Decls {
		if f, ok := d.(*ast.FuncDecl); ok {
			all[f.Name.Name] = f
		}
	}
	return all
}

// finds: is there a part of the function that is so?
func finds(f *ast.FuncDecl, so func(ast.Node) bool) bool {
	if f == nil {
		return false
	}
	found := false
	ast.Inspect(f, func(m ast.Node) bool {
		found = found || m != nil && so(m)
		return !found
	})
	return found
}

func isNamed(n ast.Node, name string) bool {
	id, ok := n.(*ast.Ident)
	return ok && id.Name == name
}

func isLetter(n ast.Node) bool {
	l, ok := n.(*ast.BasicLit)
	return ok && l.Kind == token.CHAR && (l.Value == "'p'" || l.Value == "'b'")
}

// letterMap: the name that a map with both letters is given, if the part gives one.
func letterMap(n ast.Node) (string, bool) {
	a, ok := n.(*ast.AssignStmt)
	if !ok || len(a.Lhs) != 1 || len(a.Rhs) != 1 {
		return "", false
	}
	lit, ok := a.Rhs[0].(*ast.CompositeLit)
	if !ok || len(lit.Elts) != 2 {
		return "", false
	}
	if _, ok := lit.Type.(*ast.MapType); !ok {
		return "", false
	}
	for _, e := range lit.Elts {
		if kv, ok := e.(*ast.KeyValueExpr); !ok || !isLetter(kv.Value) {
			return "", false
		}
	}
	name, ok := a.Lhs[0].(*ast.Ident)
	if !ok {
		return "", false
	}
	return name.Name, true
}

func TestWaysAVertexsLetterStandsInAMap(t *testing.T) {
	all := functions(t)
	called := func(n ast.Node) bool {
		call, ok := n.(*ast.CallExpr)
		return ok && isNamed(call.Fun, "vertexWord")
	}
	if !finds(all["Print"], called) {
		t.Fatal("Print doesn't ask vertexWord")
	}
	letters := ""
	if !finds(all["vertexWord"], func(n ast.Node) bool {
		name, ok := letterMap(n)
		letters = name
		return ok
	}) {
		t.Fatal("no map has both letters")
	}
	looked := func(n ast.Node) bool {
		index, ok := n.(*ast.IndexExpr)
		return ok && isNamed(index.X, letters)
	}
	if !finds(all["vertexWord"], looked) {
		t.Error("no vertex's letter is looked up in the map")
	}
}

// Both letters stand in the map alone.
func TestWaysLettersStandNowhereElse(t *testing.T) {
	n := 0
	for _, f := range functions(t) {
		ast.Inspect(f, func(m ast.Node) bool {
			if isLetter(m) {
				n++
			}
			return true
		})
	}
	if n != 2 {
		t.Errorf("vertices' letters stand at %d places, not at 2", n)
	}
}
