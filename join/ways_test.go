package join

import (
	"go/ast"
	"go/parser"
	"go/token"
	"go/types"
	"testing"
)

// source is join.go.
func source(t *testing.T) *ast.File {
	t.Helper()
	file, err := parser.ParseFile(token.NewFileSet(), "join.go", nil, 0)
	if err != nil {
		t.Fatal(err)
	}
	return file
}

// counts: what is gone through in a function by a range, as it is written.
func counts(file *ast.File, name string) []string {
	var all []string
	for _, d := range file.Decls {
		if f, ok := d.(*ast.FuncDecl); ok && f.Name.Name == name {
			ast.Inspect(f, func(n ast.Node) bool {
				if r, ok := n.(*ast.RangeStmt); ok {
					all = append(all, types.ExprString(r.X))
				}
				return true
			})
		}
	}
	return all
}

func TestWaysSidesAndCellsAreCountedByARangeOverAnInteger(t *testing.T) {
	if sides != 4 {
		t.Errorf("%d sides", sides)
	}
	file := source(t)
	for name, want := range map[string]string{"Parts": "len(cells)", "flood": "sides", "nearer": "sides"} {
		if all := counts(file, name); len(all) != 1 || all[0] != want {
			t.Errorf("%s goes through %q, not through %s alone", name, all, want)
		}
	}
}

// Cells and sides are counted in no other way.
func TestWaysNothingElseIsCounted(t *testing.T) {
	ast.Inspect(source(t), func(n ast.Node) bool {
		if f, ok := n.(*ast.ForStmt); ok && f.Post != nil && types.ExprString(f.Cond) != "i < len(met)" {
			t.Errorf("something is counted while %s", types.ExprString(f.Cond))
		}
		return true
	})
}

// The layer is built of layer 10 alone.
func TestWaysNoOtherLayerIsCalled(t *testing.T) {
	for _, i := range source(t).Imports {
		switch i.Path.Value {
		case `"slices"`, `"muntin/api"`, `"muntin/grid"`:
		default:
			t.Errorf("%s is imported", i.Path.Value)
		}
	}
}
