package cert

import (
	"go/ast"
	"go/parser"
	"go/token"
	"testing"
)

// source is what the package's files declare, by the functions' names.
func source(t *testing.T, files ...string) map[string]*ast.FuncDecl {
	t.Helper()
	all := map[string]*ast.FuncDecl{}
	for _, name := range files {
		file, err := parser.ParseFile(token.NewFileSet(), name, nil, 0)
		if err != nil {
			t.Fatal(err)
		}
		for _, d := range file.Decls {
			if f, ok := d.(*ast.FuncDecl); ok {
				all[f.Name.Name] = f
			}
		}
	}
	return all
}

// finds: is there a part of the function that is so?
func finds(f *ast.FuncDecl, so func(ast.Node) bool) bool {
	if f == nil {
		return false
	}
	found := false
	ast.Inspect(f, func(m ast.Node) bool {
		found = found || m != nil && so(m)
		return !found
	})
	return found
}

func calls(f *ast.FuncDecl, name string) bool {
	return finds(f, func(m ast.Node) bool {
		c, ok := m.(*ast.CallExpr)
		if !ok {
			return false
		}
		called, ok := c.Fun.(*ast.Ident)
		return ok && called.Name == name
	})
}

// looksByClosure: is a closure handed on, to be asked of each of a list?
func looksByClosure(f *ast.FuncDecl) bool {
	return finds(f, func(m ast.Node) bool {
		c, ok := m.(*ast.CallExpr)
		if !ok || len(c.Args) != 2 {
			return false
		}
		called, ok := c.Fun.(*ast.SelectorExpr)
		_, closure := c.Args[1].(*ast.FuncLit)
		return ok && closure && called.Sel.Name == "ContainsFunc"
	})
}

func TestWaysNumbersThatMayNotBeAreLookedForByClosures(t *testing.T) {
	all := source(t, "cert.go", "text.go")
	for _, x := range []struct{ call, part string }{
		{"Check", "isFlow"}, {"Check", "isRight"}, {"Parse", "readNumbers"},
	} {
		if !calls(all[x.call], x.part) {
			t.Errorf("%s doesn't call %s", x.call, x.part)
		}
		if !looksByClosure(all[x.part]) {
			t.Errorf("no closure looks at the numbers of %s", x.part)
		}
	}
}
