package norm

import (
	"go/ast"
	"go/parser"
	"go/token"
	"reflect"
	"slices"
	"testing"
)

// functions of the package by their names.
func functions(t *testing.T) map[string]*ast.FuncDecl {
	t.Helper()
	all := map[string]*ast.FuncDecl{}
	for _, name := range []string{"norm.go", "ends.go", "layout.go", "cells.go"} {
		file, err := parser.ParseFile(token.NewFileSet(), name, nil, 0)
		if err != nil {
			t.Fatal(err)
		}
		for _, d := range file.Decls {
			if f, ok := d.(*ast.FuncDecl); ok {
				all[f.Name.Name] = f
			}
		}
	}
	return all
}

// finds: is there a part of the function that is so?
func finds(f *ast.FuncDecl, so func(ast.Node) bool) bool {
	if f == nil {
		return false
	}
	found := false
	ast.Inspect(f, func(n ast.Node) bool {
		found = found || n != nil && so(n)
		return !found
	})
	return found
}

// isField: is it this field of something?
func isField(n ast.Node, name string) bool {
	s, ok := n.(*ast.SelectorExpr)
	return ok && s.Sel.Name == name
}

func rangesOver(field string) func(ast.Node) bool {
	return func(n ast.Node) bool {
		r, ok := n.(*ast.RangeStmt)
		return ok && isField(r.X, field)
	}
}

func looksUp(field string) func(ast.Node) bool {
	return func(n ast.Node) bool {
		x, ok := n.(*ast.IndexExpr)
		return ok && isField(x.X, field)
	}
}

func TestWaysABoxesCornersAndSidesAreArrays(t *testing.T) {
	of := reflect.TypeFor[box]()
	for _, name := range []string{"corners", "sides"} {
		field, ok := of.FieldByName(name)
		if !ok || field.Type.Kind() != reflect.Array || field.Type.Len() != 4 {
			t.Errorf("a box's %s are no array of four", name)
		}
	}
	if field, ok := reflect.TypeFor[layout]().FieldByName("boxes"); !ok || field.Type != reflect.TypeFor[[]box]() {
		t.Error("a layout's boxes are other ones")
	}
	all := functions(t)
	if !finds(all["addBox"], rangesOver("corners")) || !finds(all["addBox"], looksUp("sides")) {
		t.Error("a box's arrays aren't filled")
	}
	if !finds(all["joinBox"], looksUp("corners")) || !finds(all["joinBox"], looksUp("sides")) {
		t.Error("a box's cells aren't joined by its arrays")
	}
}

// Wherever bends are looked at, it is by a range over the string.
func TestWaysBendsAreGoneThroughByARangeOverTheString(t *testing.T) {
	over := func(n ast.Node) bool {
		r, ok := n.(*ast.RangeStmt)
		return ok && isField(r.X, "Bends") && r.Value != nil
	}
	var ranging []string
	for name, f := range functions(t) {
		if finds(f, over) {
			ranging = append(ranging, name)
		}
		if finds(f, looksUp("Bends")) {
			t.Errorf("%s looks at a bend by its place", name)
		}
	}
	slices.Sort(ranging)
	if !slices.Equal(ranging, []string{"comes", "joinEdge"}) {
		t.Errorf("bends are gone through in %q", ranging)
	}
}
