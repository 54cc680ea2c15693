package valid

import (
	"go/parser"
	"go/token"
	"testing"
)

// The layer is built of layers 10, 12 and 13 alone.
func TestWaysNoOtherLayerIsCalled(t *testing.T) {
	file, err := parser.ParseFile(token.NewFileSet(), "valid.go", nil, parser.ImportsOnly)
	if err != nil {
		t.Fatal(err)
	}
	for _, i := range file.Imports {
		switch i.Path.Value {
		case `"slices"`, `"muntin/api"`, `"muntin/grid"`, `"muntin/face"`, `"muntin/join"`:
		default:
			t.Errorf("%s is imported", i.Path.Value)
		}
	}
}
