package parse

import (
	"muntin/api"
	"muntin/compass"
	"muntin/lex"
)

const (
	firstWord      = "shape"
	lastLine       = "end"
	noVertices     = "-"
	pointLetter    = 'p'
	boxLetter      = 'b'
	greatestNumber = 9999999
)

// reading is what was read of a text so far.
type reading struct {
	begun, ended bool
	shape        api.Shape
	bends        int
}

// Parse a text: the shape; at which line it is wrong.
func Parse(text string) (api.Shape, int, api.Errno) {
	lines, err := lex.Lines(text)
	if err != api.OK {
		return api.Shape{}, 0, err
	}
	var r reading
	for i, line := range lines {
		if err := r.add(line); err != api.OK {
			return api.Shape{}, i + 1, err
		}
	}
	if !r.ended {
		return api.Shape{}, len(lines) + 1, api.ErrSyntax
	}
	return r.shape, 0, api.OK
}

// add the text's next line.
func (r *reading) add(line string) api.Errno {
	switch {
	case r.ended:
		return api.ErrSyntax
	case !r.begun:
		r.begun = true
		return r.addVertices(line)
	case line == lastLine:
		r.ended = true
		return api.OK
	}
	return r.addEdge(line)
}

func (r *reading) addVertices(line string) api.Errno {
	words, ok := lex.Words(line)
	if !ok || len(words) != 2 || words[0] != firstWord {
		return api.ErrSyntax
	}
	boxes, ok := readBoxes(words[1])
	switch {
	case !ok:
		return api.ErrSyntax
	case len(boxes) > api.MaxCells:
		return api.ErrMany
	}
	r.shape.Boxes = boxes
	return api.OK
}

// readBoxes: which vertices are boxes, by their letters; nothing and false, if a letter is no vertex's.
func readBoxes(word string) ([]bool, bool) {
	if word == noVertices {
		return nil, true
	}
	boxes := make([]bool, 0, len(word))
	for _, letter := range word {
		if letter != pointLetter && letter != boxLetter {
			return nil, false
		}
		boxes = append(boxes, letter == boxLetter)
	}
	return boxes, true
}

func (r *reading) addEdge(line string) api.Errno {
	edge, err := readEdge(line, len(r.shape.Boxes))
	switch {
	case err != api.OK:
		return err
	case len(r.shape.Edges) == api.MaxCells || len(edge.Bends) > api.MaxCells-r.bends:
		return api.ErrMany
	}
	r.shape.Edges = append(r.shape.Edges, edge)
	r.bends += len(edge.Bends)
	return api.OK
}

// readEdge of a line: its words are asked one by one, as the first wrong one tells the error.
func readEdge(line string, vertices int) (api.Edge, api.Errno) {
	words, ok := lex.Words(line)
	if !ok || len(words) < 3 || len(words) > 4 {
		return api.Edge{}, api.ErrSyntax
	}
	from, err := readVertex(words[0], vertices)
	if err != api.OK {
		return api.Edge{}, err
	}
	dir, ok := compass.Of(words[1])
	if !ok {
		return api.Edge{}, api.ErrSyntax
	}
	to, err := readVertex(words[2], vertices)
	if err != api.OK {
		return api.Edge{}, err
	}
	bends := ""
	if len(words) == 4 {
		bends = words[3]
	}
	if !areBends(bends) {
		return api.Edge{}, api.ErrSyntax
	}
	return api.Edge{From: from, To: to, Dir: dir, Bends: bends}, api.OK
}

func readVertex(word string, vertices int) (int, api.Errno) {
	v, ok := lex.Number(word, greatestNumber)
	switch {
	case !ok:
		return 0, api.ErrNumber
	case !isVertex(v, vertices):
		return 0, api.ErrRange
	}
	return v, api.OK
}
