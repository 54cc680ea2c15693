package norm

import (
	"slices"
	"strconv"
	"testing"

	"muntin/api"
	"muntin/parse"
)

// A plain rule for a shape's cells: each has a name, stands in a list of all names, and edges are laid between names.

var (
	toLeft   = [4]int{api.North, api.West, api.South, api.East}
	toRight  = [4]int{api.South, api.East, api.North, api.West}
	opposite = [4]int{api.West, api.South, api.East, api.North}
)

// walk tells the directions of an edge's pieces, one by one.
func walk(e api.Edge) []int {
	dirs := []int{e.Dir}
	for i := range len(e.Bends) {
		d := dirs[i]
		if e.Bends[i] == 'L' {
			dirs = append(dirs, toLeft[d])
		} else {
			dirs = append(dirs, toRight[d])
		}
	}
	return dirs
}

// arrives: on which side of its To an edge ends.
func arrives(e api.Edge) int {
	dirs := walk(e)
	return opposite[dirs[len(dirs)-1]]
}

func fromName(s api.Shape, e int) string {
	if v := s.Edges[e].From; !s.Boxes[v] {
		return vertexName(v)
	}
	return "edge " + strconv.Itoa(e) + " from"
}

func toName(s api.Shape, e int) string {
	if v := s.Edges[e].To; !s.Boxes[v] {
		return vertexName(v)
	}
	return "edge " + strconv.Itoa(e) + " to"
}

func vertexName(v int) string { return "vertex " + strconv.Itoa(v) }

func bendName(e, bend int) string {
	return "edge " + strconv.Itoa(e) + " bend " + strconv.Itoa(bend)
}

// sideNames are those of a vertex's ends on one side, in order.
func sideNames(s api.Shape, v, side int) []string {
	var names []string
	for i, e := range s.Edges {
		if e.From == v && e.Dir == side {
			names = append(names, fromName(s, i))
		}
		if e.To == v && arrives(e) == side {
			names = append(names, toName(s, i))
		}
	}
	return names
}

// vertexNames are those of a vertex's cells, in order.
func vertexNames(s api.Shape, v int) []string {
	one := vertexName(v)
	if !s.Boxes[v] {
		return []string{one}
	}
	names := []string{one + " SW", one + " SE", one + " NE", one + " NW"}
	for side := range 4 {
		names = append(names, sideNames(s, v, side)...)
	}
	return names
}

// wayNames are those of an edge's cells, in order.
func wayNames(s api.Shape, e int) []string {
	names := []string{fromName(s, e)}
	for bend := range len(s.Edges[e].Bends) {
		names = append(names, bendName(e, bend))
	}
	return append(names, toName(s, e))
}

// plainError is the first of layer 11's errors that holds.
func plainError(s api.Shape, cells int) api.Errno {
	if e := parse.Check(s); e != api.OK {
		return e
	}
	if cells > api.MaxCells {
		return api.ErrMany
	}
	for v, isBox := range s.Boxes {
		for side := range 4 {
			if !isBox && len(sideNames(s, v, side)) > 1 {
				return api.ErrSide
			}
		}
	}
	for _, e := range s.Edges {
		if e.From == e.To && !s.Boxes[e.From] && len(e.Bends) == 0 {
			return api.ErrTurn
		}
	}
	return api.OK
}

// plain tells a shape's norm by the names. (Of a shape that may be written.)
func plain(s api.Shape) (Norm, api.Errno) {
	var names []string
	var first []int
	for v := range s.Boxes {
		first = append(first, len(names))
		names = append(names, vertexNames(s, v)...)
	}
	for i, e := range s.Edges {
		for bend := range len(e.Bends) {
			names = append(names, bendName(i, bend))
		}
	}
	if e := plainError(s, len(names)); e != api.OK {
		return Norm{}, e
	}
	places := map[string]int{}
	for i, name := range names {
		places[name] = i
	}
	n := Norm{Cells: loners(len(names)), First: first}
	for v, isBox := range s.Boxes {
		if isBox {
			plainBox(s, v, n.Cells, places)
		}
	}
	for i, e := range s.Edges {
		row := wayNames(s, i)
		n.Ways = append(n.Ways, nil)
		for _, name := range row {
			n.Ways[i] = append(n.Ways[i], places[name])
		}
		for j, d := range walk(e) {
			tie(n.Cells, places[row[j]], d, places[row[j+1]], i)
		}
	}
	return n, api.OK
}

// plainBox lays the edges along a box's sides.
func plainBox(s api.Shape, v int, cells []api.Cell, places map[string]int) {
	one := vertexName(v)
	for side, x := range [4]struct {
		from string
		dir  int
		to   string
	}{
		{" SE", api.North, " NE"},
		{" NW", api.East, " NE"},
		{" SW", api.North, " NW"},
		{" SW", api.East, " SE"},
	} {
		row := append([]string{one + x.from}, sideNames(s, v, side)...)
		row = append(row, one+x.to)
		for j := range len(row) - 1 {
			tie(cells, places[row[j]], x.dir, places[row[j+1]], -1)
		}
	}
}

// loners are so many cells without edges.
func loners(n int) []api.Cell {
	return slices.Repeat([]api.Cell{{Next: [4]int{-1, -1, -1, -1}}}, n)
}

// tie two cells from both ends.
func tie(cells []api.Cell, v, d, w, owner int) {
	cells[v].Next[d], cells[v].Owner[d] = w, owner
	cells[w].Next[opposite[d]], cells[w].Owner[opposite[d]] = v, owner
}

func sameNorm(a, b Norm) bool {
	return slices.Equal(a.Cells, b.Cells) && slices.Equal(a.First, b.First) && slices.EqualFunc(a.Ways, b.Ways, slices.Equal[[]int])
}

// copied shape, that shares no list with the one given.
func copied(s api.Shape) api.Shape {
	return api.Shape{Boxes: slices.Clone(s.Boxes), Edges: slices.Clone(s.Edges)}
}

// holdPlain holds Of a shape to the plain rule; what it answered.
func holdPlain(t *testing.T, s api.Shape) (Norm, api.Errno) {
	t.Helper()
	was := copied(s)
	got, e := Of(s)
	want, err := plain(s)
	if e != err || !sameNorm(got, want) {
		t.Fatalf("Of(%v) is\n%v, %d, not\n%v, %d", s, got, e, want, err)
	}
	if !parse.Equal(s, was) {
		t.Fatalf("%v became %v", was, s)
	}
	return got, e
}

// eachShape goes through all shapes of the vertices with so many edges, each with one of the bends.
func eachShape(boxes []bool, edges int, bends []string, do func(s api.Shape)) {
	kinds := len(boxes) * len(boxes) * 4 * len(bends)
	all := 1
	for range edges {
		all *= kinds
	}
	for code := range all {
		s := api.Shape{Boxes: boxes, Edges: make([]api.Edge, edges)}
		for i := range edges {
			one := code % kinds
			code /= kinds
			s.Edges[i] = api.Edge{From: one % len(boxes), To: one / len(boxes) % len(boxes), Dir: one / len(boxes) / len(boxes) % 4, Bends: bends[one/len(boxes)/len(boxes)/4]}
		}
		do(s)
	}
}

// dice answer numbers below n, the same ones for the same seed.
func dice(seed uint64) func(n int) int {
	state := seed*2862933555777941757 + 3037000493
	return func(n int) int {
		state = state*6364136223846793005 + 1442695040888963407
		return int(state >> 33 % uint64(n))
	}
}

// cast a shape by a seed; one in which points have room, if it is to be fit.
func cast(seed uint64, fit bool) api.Shape {
	next := dice(seed)
	s := api.Shape{Boxes: make([]bool, 1+next(6))}
	for v := range s.Boxes {
		s.Boxes[v] = next(3) > 0
	}
	for range next(14) {
		e := api.Edge{From: next(len(s.Boxes)), To: next(len(s.Boxes)), Dir: next(4)}
		for range max(0, next(9)-3) {
			e.Bends += [2]string{"L", "R"}[next(2)]
		}
		s.Edges = append(s.Edges, e)
		if _, err := plain(s); fit && err != api.OK {
			s.Edges = s.Edges[:len(s.Edges)-1]
		}
	}
	return s
}
