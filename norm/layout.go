package norm

import "muntin/api"

// The corners of a box, in the order of their cells.
const (
	southWest = iota
	southEast
	northEast
	northWest
)

// box as cells: its corners, and its ends, side by side.
type box struct {
	corners [4]int
	sides   [4][]int
}

// layout tells which cells a shape's parts are.
type layout struct {
	count int
	first []int
	boxes []box
	ways  [][]int
}

// lay a shape's cells out, one behind the other.
func lay(s api.Shape, vertices []ends) layout {
	l := layout{first: make([]int, 0, len(s.Boxes)), ways: make([][]int, len(s.Edges))}
	for i, e := range s.Edges {
		l.ways[i] = make([]int, len(e.Bends)+2)
	}
	for v, isBox := range s.Boxes {
		l.first = append(l.first, l.count)
		if isBox {
			l.addBox(vertices[v])
		} else {
			l.addPoint(vertices[v])
		}
	}
	for i, e := range s.Edges {
		for bend := range len(e.Bends) {
			l.ways[i][bend+1] = l.take()
		}
	}
	return l
}

// take the next cell.
func (l *layout) take() int {
	l.count++
	return l.count - 1
}

func (l *layout) addPoint(all ends) {
	cell := l.take()
	for _, side := range all {
		for _, e := range side {
			l.ways[e.edge][e.place] = cell
		}
	}
}

func (l *layout) addBox(all ends) {
	var b box
	for corner := range b.corners {
		b.corners[corner] = l.take()
	}
	for d, side := range all {
		for _, e := range side {
			cell := l.take()
			l.ways[e.edge][e.place] = cell
			b.sides[d] = append(b.sides[d], cell)
		}
	}
	l.boxes = append(l.boxes, b)
}
