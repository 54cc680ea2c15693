package grid

import (
	"go/ast"
	"go/parser"
	"go/token"
	"reflect"
	"testing"

	"muntin/api"
)

// source is grid.go.
func source(t *testing.T) *ast.File {
	t.Helper()
	file, err := parser.ParseFile(token.NewFileSet(), "grid.go", nil, 0)
	if err != nil {
		t.Fatal(err)
	}
	return file
}

// finds: is there a part that is so?
func finds(n ast.Node, so func(ast.Node) bool) bool {
	found := false
	ast.Inspect(n, func(m ast.Node) bool {
		found = found || m != nil && so(m)
		return !found
	})
	return found
}

// isSides: is it a cell's array of next cells, or of owners?
func isSides(n ast.Node) bool {
	s, ok := n.(*ast.SelectorExpr)
	return ok && (s.Sel.Name == "Next" || s.Sel.Name == "Owner")
}

// What a grid keeps of its cells' sides are arrays, as values: no slice or map stands for them.
func TestWaysACellsSidesAreArrays(t *testing.T) {
	grid := reflect.TypeFor[Grid]()
	if grid.NumField() != 1 || grid.Field(0).Type != reflect.TypeFor[[]api.Cell]() {
		t.Fatal("a grid keeps other things than its cells")
	}
	cell := reflect.TypeFor[api.Cell]()
	for i := range cell.NumField() {
		if k := cell.Field(i).Type.Kind(); k != reflect.Array {
			t.Errorf("%s of a cell is no array", cell.Field(i).Name)
		}
	}
	other := func(n ast.Node) bool {
		switch x := n.(type) {
		case *ast.MapType:
			return true
		case *ast.ArrayType:
			item, ok := x.Elt.(*ast.SelectorExpr)
			return x.Len == nil && !(ok && item.Sel.Name == "Cell")
		}
		return false
	}
	if finds(source(t), other) {
		t.Error("something else than an array stands for sides")
	}
}

// The arrays are made, gone through, asked and set.
func TestWaysTheArraysAreUsed(t *testing.T) {
	file := source(t)
	for name, so := range map[string]func(ast.Node) bool{
		"made": func(n ast.Node) bool {
			lit, ok := n.(*ast.CompositeLit)
			if !ok {
				return false
			}
			a, ok := lit.Type.(*ast.ArrayType)
			return ok && a.Len != nil && len(lit.Elts) == 4
		},
		"gone through": func(n ast.Node) bool {
			r, ok := n.(*ast.RangeStmt)
			return ok && isSides(r.X)
		},
		"asked": func(n ast.Node) bool {
			b, ok := n.(*ast.BinaryExpr)
			if !ok {
				return false
			}
			x, ok := b.X.(*ast.IndexExpr)
			return ok && isSides(x.X)
		},
		"set": func(n ast.Node) bool {
			a, ok := n.(*ast.AssignStmt)
			if !ok {
				return false
			}
			x, ok := a.Lhs[0].(*ast.IndexExpr)
			return ok && isSides(x.X)
		},
	} {
		if !finds(file, so) {
			t.Errorf("no array of sides is %s", name)
		}
	}
}
