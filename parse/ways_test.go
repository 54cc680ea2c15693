package parse

import (
	"go/ast"
	"go/parser"
	"go/token"
	"go/types"
	"testing"
)

// finds: is there a part of the tree that is so?
func finds(n ast.Node, so func(ast.Node) bool) bool {
	found := false
	ast.Inspect(n, func(m ast.Node) bool {
		found = found || m != nil && so(m)
		return !found
	})
	return found
}

// functions of text.go by their names, and what the file's parts are.
func functions(t *testing.T) (map[string]*ast.FuncDecl, *types.Info) {
	t.Helper()
	set := token.NewFileSet()
	file, err := parser.ParseFile(set, "text.go", nil, 0)
	if err != nil {
		t.Fatal(err)
	}
	info := &types.Info{Types: map[ast.Expr]types.TypeAndValue{}}
	// The file's imports aren't looked up: types that hang on them may stay unknown.
	config := types.Config{Error: func(error) {}}
	config.Check("muntin/parse", set, []*ast.File{file}, info)
	all := map[string]*ast.FuncDecl{}
	for _, d := range file.Decls {
		if f, ok := d.(*ast.FuncDecl); ok {
			all[f.Name.Name] = f
		}
	}
	return all, info
}

func calls(name string) func(ast.Node) bool {
	return func(n ast.Node) bool {
		call, ok := n.(*ast.CallExpr)
		if !ok {
			return false
		}
		id, ok := call.Fun.(*ast.Ident)
		return ok && id.Name == name
	}
}

func TestWaysVerticesAreGoneThroughByARangeOverTheString(t *testing.T) {
	all, info := functions(t)
	if all["addVertices"] == nil || !finds(all["addVertices"], calls("readBoxes")) {
		t.Fatal("the vertices' line isn't read by readBoxes")
	}
	overString := func(n ast.Node) bool {
		loop, ok := n.(*ast.RangeStmt)
		if !ok || loop.Value == nil {
			return false
		}
		kind := info.Types[loop.X].Type
		return kind != nil && types.Identical(kind.Underlying(), types.Typ[types.String])
	}
	if !finds(all["readBoxes"], overString) {
		t.Error("readBoxes doesn't range over a string")
	}
}
