package join

import (
	"math"
	"slices"
	"strconv"
	"strings"
	"testing"

	"muntin/api"
	"muntin/grid"
)

// ints at which a cell's number may go wrong.
var ints = []int{math.MinInt, math.MinInt + 1, -4097, -2, -1, 0, 1, 2, 3, 4, 5, api.MaxCells, math.MaxInt - 1, math.MaxInt}

// cellsOf: so many cells with these edges, as "0E5" is one from 0 to the East to 5.
func cellsOf(t *testing.T, n int, edges string) []api.Cell {
	t.Helper()
	g, err := grid.New(n)
	if err != api.OK {
		t.Fatalf("%d cells: %d", n, err)
	}
	for i, edge := range strings.Fields(edges) {
		at := strings.IndexAny(edge, "ENWS")
		v, _ := strconv.Atoi(edge[:at])
		w, _ := strconv.Atoi(edge[at+1:])
		if err := g.Join(v, strings.Index("ENWS", edge[at:at+1]), w, i+api.Dummy); err != api.OK {
			t.Fatalf("%q: %s: %d", edges, edge, err)
		}
	}
	return g.Cells()
}

// directionsOf letters.
func directionsOf(letters string) []int {
	var all []int
	for _, letter := range letters {
		all = append(all, strings.IndexRune("ENWS", letter))
	}
	return all
}

// eachGrid goes through all cells, so many, that may be: in the East and in the North each has another one, or (its own number) none.
func eachGrid(t *testing.T, n int, tell func([]api.Cell)) {
	t.Helper()
	codes := 1
	for range 2 * n {
		codes *= n
	}
	for code := range codes {
		if g := gridOfCode(t, n, code); g != nil {
			tell(g.Cells())
		}
	}
}

// gridOfCode: a digit for each cell and each of two directions; none, if two digits don't go together.
func gridOfCode(t *testing.T, n, code int) *grid.Grid {
	t.Helper()
	g, err := grid.New(n)
	if err != api.OK {
		t.Fatalf("%d cells: %d", n, err)
	}
	for v := range n {
		for _, d := range []int{api.East, api.North} {
			w := code % n
			code /= n
			if w != v && g.Join(v, d, w, v) != api.OK {
				return nil
			}
		}
	}
	return g
}

// dice are numbers that look like chance, the same ones in each run.
type dice uint64

func (s *dice) below(n int) int {
	*s = *s*6364136223846793005 + 1442695040888963407
	return int(uint64(*s)>>33) % n
}

// mixed are the numbers below n, each once, in any order.
func (s *dice) mixed(n int) []int {
	all := make([]int, n)
	for i := range all {
		j := s.below(i + 1)
		all[i] = all[j]
		all[j] = i
	}
	return all
}

// plane cells stand in rows, each row above the one before it; of the edges between neighbours so many of ten are left out, by chance.
func plane(t *testing.T, s *dice, names []int, wide, out int) []api.Cell {
	t.Helper()
	g, err := grid.New(len(names))
	if err != api.OK {
		t.Fatalf("%d cells: %d", len(names), err)
	}
	for i, v := range names {
		if i%wide != wide-1 && i+1 < len(names) && s.below(10) >= out {
			g.Join(v, api.East, names[i+1], 0)
		}
		if i+wide < len(names) && s.below(10) >= out {
			g.Join(v, api.North, names[i+wide], 0)
		}
	}
	return g.Cells()
}

// wild cells are joined by chance, whether they can be drawn or not.
func wild(t *testing.T, s *dice, n, edges int) []api.Cell {
	t.Helper()
	g, err := grid.New(n)
	if err != api.OK {
		t.Fatalf("%d cells: %d", n, err)
	}
	for range edges {
		// What can't be joined is left as it is.
		g.Join(s.below(n), s.below(4), s.below(n), s.below(20)-2)
	}
	return g.Cells()
}

// counted are the numbers below n, in their order.
func counted(n int) []int {
	all := make([]int, n)
	for i := range all {
		all[i] = i
	}
	return all
}

// bad is a list of cells that may not be, with what layer 10 tells of it.
type bad struct {
	cells []api.Cell
	want  api.Errno
}

// bads are such lists; in each, the first two cells are next to one another, as they should be.
func bads(t *testing.T) map[string]bad {
	t.Helper()
	many := append(cellsOf(t, api.MaxCells, "0E1"), cellsOf(t, 1, "")...)
	wrongToo := slices.Clone(many)
	wrongToo[2].Next[api.North] = 2
	far, self, low := cellsOf(t, 3, "0E1"), cellsOf(t, 3, "0E1"), cellsOf(t, 3, "0E1")
	far[2].Next[api.North] = 3
	self[2].Next[api.North] = 2
	low[2].Next[api.North] = -2
	oneWay, noEdge := cellsOf(t, 4, "0E1"), cellsOf(t, 4, "0E1")
	owners, dummy := cellsOf(t, 4, "0E1 2N3"), cellsOf(t, 4, "0E1 2N3")
	oneWay[2].Next[api.North] = 3
	noEdge[3].Owner[api.South] = 1
	owners[3].Owner[api.South] = 6
	dummy[2].Owner[api.North], dummy[3].Owner[api.South] = -3, -3
	return map[string]bad{
		"too many":                {many, api.ErrMany},
		"too many, and wrong":     {wrongToo, api.ErrMany},
		"a next one that is none": {far, api.ErrRange},
		"next to itself":          {self, api.ErrRange},
		"below none":              {low, api.ErrRange},
		"not from both ends":      {oneWay, api.ErrJoin},
		"an owner of nothing":     {noEdge, api.ErrJoin},
		"two owners":              {owners, api.ErrJoin},
		"an owner below Dummy":    {dummy, api.ErrJoin},
		"a cell of zeros":         {[]api.Cell{{}}, api.ErrRange},
	}
}
