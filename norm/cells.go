package norm

import (
	"muntin/api"
	"muntin/grid"
)

// border of a box: from which of its corners, in which direction, to which one it goes.
type border struct {
	from, dir, to int
}

var borders = [4]border{
	api.East:  {southEast, api.North, northEast},
	api.North: {northWest, api.East, northEast},
	api.West:  {southWest, api.North, northWest},
	api.South: {southWest, api.East, southEast},
}

// joined: the cells of a shape, laid out, with their edges.
func joined(s api.Shape, l layout) []api.Cell {
	// The grid refuses nothing here: there are no more cells than it takes, and no two ends on one side of a cell.
	g, _ := grid.New(l.count)
	for _, b := range l.boxes {
		joinBox(g, b)
	}
	for i, e := range s.Edges {
		joinEdge(g, e, l.ways[i], i)
	}
	return g.Cells()
}

func joinBox(g *grid.Grid, b box) {
	for side, way := range borders {
		at := b.corners[way.from]
		for _, next := range b.sides[side] {
			g.Join(at, way.dir, next, api.Cage)
			at = next
		}
		g.Join(at, way.dir, b.corners[way.to], api.Cage)
	}
}

func joinEdge(g *grid.Grid, e api.Edge, way []int, owner int) {
	d := e.Dir
	// A bend has one byte: its place is how many are ahead of it.
	for place, bend := range e.Bends {
		g.Join(way[place], d, way[place+1], owner)
		d = bent(d, bend)
	}
	last := len(way) - 1
	g.Join(way[last-1], d, way[last], owner)
}
