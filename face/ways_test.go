package face

import (
	"go/ast"
	"go/parser"
	"go/token"
	"testing"

	"muntin/api"
	"muntin/compass"
)

// source is face.go, and its functions by their names.
func source(t *testing.T) (*ast.File, map[string]*ast.FuncDecl) {
	t.Helper()
	file, err := parser.ParseFile(token.NewFileSet(), "face.go", nil, 0)
	if err != nil {
		t.Fatal(err)
	}
	all := map[string]*ast.FuncDecl{}
	for _, d := range file.Decls {
		if f, ok := d.(*ast.FuncDecl); ok {
			all[f.Name.Name] = f
		}
	}
	return file, all
}

// finds: is there a part that is so?
func finds(n ast.Node, so func(ast.Node) bool) bool {
	found := false
	ast.Inspect(n, func(m ast.Node) bool {
		found = found || m != nil && so(m)
		return !found
	})
	return found
}

func isName(n ast.Node, name string) bool {
	x, ok := n.(*ast.Ident)
	return ok && x.Name == name
}

// isMet: is it a place of the map of the darts that were met?
func isMet(n ast.Node) bool {
	x, ok := n.(*ast.IndexExpr)
	return ok && isName(x.X, "met")
}

func TestWaysDartsThatWereMetStandInAMap(t *testing.T) {
	_, all := source(t)
	made := func(n ast.Node) bool {
		a, ok := n.(*ast.AssignStmt)
		if !ok || len(a.Lhs) != 1 || !isName(a.Lhs[0], "met") {
			return false
		}
		lit, ok := a.Rhs[0].(*ast.CompositeLit)
		if !ok {
			return false
		}
		m, ok := lit.Type.(*ast.MapType)
		return ok && isName(m.Key, "Dart")
	}
	if f := all["Faces"]; f == nil || !finds(f, made) {
		t.Error("Faces makes no map of darts")
	}
	set := func(n ast.Node) bool {
		a, ok := n.(*ast.AssignStmt)
		return ok && isMet(a.Lhs[0])
	}
	asked := func(n ast.Node) bool {
		a, ok := n.(*ast.AssignStmt)
		return ok && isMet(a.Rhs[0])
	}
	if f := all["gather"]; f == nil || !finds(f, set) || !finds(f, asked) {
		t.Error("the map of darts isn't set or asked")
	}
}

func TestWaysTheWaysToTurnAreAnArray(t *testing.T) {
	if ways != [4]int{1, 0, -1, -2} {
		t.Errorf("ways %v", ways)
	}
	for d := range 4 {
		for i, e := range [4]int{toLeft[d], d, toRight[d], opposite[d]} {
			if compass.Left(d, ways[i]) != e || compass.Turn(d, e) != ways[i] {
				t.Errorf("from %d by %d to %d", d, ways[i], e)
			}
		}
	}
	_, all := source(t)
	over := func(n ast.Node) bool {
		r, ok := n.(*ast.RangeStmt)
		return ok && isName(r.X, "ways")
	}
	if f := all["behind"]; f == nil || !finds(f, over) {
		t.Error("the ways to turn aren't gone through")
	}
	for _, name := range []string{"Next", "Turns", "gather"} {
		asks := func(n ast.Node) bool {
			c, ok := n.(*ast.CallExpr)
			return ok && isName(c.Fun, "behind")
		}
		if f := all[name]; f == nil || !finds(f, asks) {
			t.Errorf("%s doesn't go by the ways to turn", name)
		}
	}
}

// The layer is built of layers 1 and 10 alone.
func TestWaysNoOtherLayerIsCalled(t *testing.T) {
	file, _ := source(t)
	for _, i := range file.Imports {
		switch i.Path.Value {
		case `"muntin/api"`, `"muntin/compass"`, `"muntin/grid"`:
		default:
			t.Errorf("%s is imported", i.Path.Value)
		}
	}
	// East to South are the directions that a cell's sides are counted by.
	if api.East != 0 || api.South != len(api.Cell{}.Next)-1 {
		t.Error("a cell has other sides than the directions")
	}
}
