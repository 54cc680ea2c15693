package lex

import (
	"go/ast"
	"go/parser"
	"go/token"
	"testing"
)

// function of lex.go by its name.
func function(t *testing.T, name string) *ast.FuncDecl {
	t.Helper()
	file, err := parser.ParseFile(token.NewFileSet(), "lex.go", nil, 0)
	if err != nil {
		t.Fatal(err)
	}
	for _, d := range file.Decls {
		if f, ok := d.(*ast.FuncDecl); ok && f.Name.Name == name {
			return f
		}
	}
	t.Fatalf("there is no %s", name)
	return nil
}

// finds: is there a part of the tree that is so?
func finds(n ast.Node, so func(ast.Node) bool) bool {
	found := false
	ast.Inspect(n, func(m ast.Node) bool {
		found = found || m != nil && so(m)
		return !found
	})
	return found
}

func isNamed(n ast.Node, name string) bool {
	id, ok := n.(*ast.Ident)
	return ok && id.Name == name
}

func TestWaysDigitsAreAskedForRuneByRune(t *testing.T) {
	asked := func(m ast.Node) bool {
		call, ok := m.(*ast.CallExpr)
		return ok && isNamed(call.Fun, "isNumber")
	}
	if !finds(function(t, "Number"), asked) {
		t.Error("Number doesn't ask whether the word is a number")
	}
	ofRune := func(m ast.Node) bool {
		f, ok := m.(*ast.FuncLit)
		return ok && len(f.Type.Params.List) == 1 && isNamed(f.Type.Params.List[0].Type, "rune")
	}
	if !finds(function(t, "isNumber"), ofRune) {
		t.Error("no closure looks at the word's runes")
	}
}
