package kitty

import (
	"go/ast"
	"go/parser"
	"go/token"
	"go/types"
	"testing"
)

// source is kitty.go.
func source(t *testing.T) *ast.File {
	t.Helper()
	file, err := parser.ParseFile(token.NewFileSet(), "kitty.go", nil, 0)
	if err != nil {
		t.Fatal(err)
	}
	return file
}

// function of the file by its name.
func function(t *testing.T, file *ast.File, name string) *ast.FuncDecl {
	t.Helper()
	for _, d := range file.Decls {
		if f, ok := d.(*ast.FuncDecl); ok && f.Name.Name == name {
			return f
		}
	}
	t.Fatalf("there is no %s", name)
	return nil
}

// finds: is there a part of the tree that is so?
func finds(n ast.Node, so func(ast.Node) bool) bool {
	found := false
	ast.Inspect(n, func(m ast.Node) bool {
		found = found || m != nil && so(m)
		return !found
	})
	return found
}

func calls(n ast.Node, name string) bool {
	return finds(n, func(m ast.Node) bool {
		c, ok := m.(*ast.CallExpr)
		return ok && types.ExprString(c.Fun) == name
	})
}

// counts: is there a range over this, which counts by itself?
func counts(n ast.Node, over string) bool {
	return finds(n, func(m ast.Node) bool {
		r, ok := m.(*ast.RangeStmt)
		return ok && r.Value == nil && types.ExprString(r.X) == over
	})
}

func TestWaysATurnsCornersAreCountedByARangeOverAnInteger(t *testing.T) {
	// That parts tells an integer is known by this, or it doesn't build.
	var number int = parts(-2)
	if number != 2 {
		t.Errorf("turned back there are %d corners", number)
	}
	file := source(t)
	for _, name := range []string{"Corners", "sums"} {
		if !counts(function(t, file, name), "parts(turn)") {
			t.Errorf("%s doesn't count a turn's corners by a range over their number", name)
		}
	}
	if finds(file, func(n ast.Node) bool { _, ok := n.(*ast.ForStmt); return ok }) {
		t.Error("something is counted in another way")
	}
}

func TestWaysTurnsThatMayNotBeAreLookedForByAClosure(t *testing.T) {
	file := source(t)
	for _, name := range []string{"Rot", "Pair"} {
		if !calls(function(t, file, name), "mayBe") {
			t.Errorf("%s doesn't ask whether the turns may be", name)
		}
	}
	looks := finds(function(t, file, "mayBe"), func(n ast.Node) bool {
		c, ok := n.(*ast.CallExpr)
		if !ok || types.ExprString(c.Fun) != "slices.ContainsFunc" || len(c.Args) != 2 {
			return false
		}
		_, closure := c.Args[1].(*ast.FuncLit)
		return closure && types.ExprString(c.Args[0]) == "turns"
	})
	if !looks {
		t.Error("no closure looks at the turns")
	}
}

// The layer is built of layers 12 and 14 alone.
func TestWaysNoOtherLayerIsCalled(t *testing.T) {
	for _, i := range source(t).Imports {
		switch i.Path.Value {
		case `"slices"`, `"muntin/api"`, `"muntin/face"`, `"muntin/valid"`:
		default:
			t.Errorf("%s is imported", i.Path.Value)
		}
	}
}
