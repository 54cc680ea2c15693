package norm

import (
	"muntin/api"
	"muntin/compass"
)

const bendLeft = 'L'

// end of an edge: whose it is, and where it stands in that edge's way.
type end struct {
	edge, place int
}

// ends of a vertex, side by side, each side's in order.
type ends [4][]end

// endsOf a shape's vertices.
func endsOf(s api.Shape) []ends {
	all := make([]ends, len(s.Boxes))
	for i, e := range s.Edges {
		all[e.From].add(e.Dir, end{edge: i, place: 0})
		all[e.To].add(contrary(comes(e)), end{edge: i, place: len(e.Bends) + 1})
	}
	return all
}

func (a *ends) add(side int, e end) { a[side] = append(a[side], e) }

// comes: the direction in which an edge comes to its To.
func comes(e api.Edge) int {
	d := e.Dir
	for _, bend := range e.Bends {
		d = bent(d, bend)
	}
	return d
}

// bent: a direction behind a bend.
func bent(d int, bend rune) int {
	if bend == bendLeft {
		return compass.Left(d, 1)
	}
	return compass.Left(d, -1)
}

func contrary(d int) int { return compass.Left(d, 2) }
