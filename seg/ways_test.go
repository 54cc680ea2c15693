package seg

import (
	"go/parser"
	"go/token"
	"testing"
)

// The layer is built of layers 1 and 10 alone.
func TestWaysNoOtherLayerIsCalled(t *testing.T) {
	file, err := parser.ParseFile(token.NewFileSet(), "seg.go", nil, parser.ImportsOnly)
	if err != nil {
		t.Fatal(err)
	}
	for _, i := range file.Imports {
		switch i.Path.Value {
		case `"slices"`, `"muntin/api"`, `"muntin/compass"`, `"muntin/grid"`:
		default:
			t.Errorf("%s is imported", i.Path.Value)
		}
	}
}
