package kitty

import (
	"math"
	"slices"
	"strconv"
	"strings"
	"testing"

	"muntin/api"
	"muntin/grid"
)

// ints at which a turn, or a corner's place or part, may go wrong.
var ints = []int{math.MinInt, math.MinInt + 1, -4097, -4, -3, -2, -1, 0, 1, 2, 3, 4, 5, 6, 7, api.MaxCells, math.MaxInt - 1, math.MaxInt}

// Where one comes by each direction turned, written out.
var (
	toLeft   = [4]int{api.North, api.West, api.South, api.East}
	toRight  = [4]int{api.South, api.East, api.North, api.West}
	opposite = [4]int{api.West, api.South, api.East, api.North}
)

// loners are so many cells without edges.
func loners(n int) []api.Cell {
	cells := make([]api.Cell, n)
	for i := range cells {
		cells[i] = api.Cell{Next: [4]int{-1, -1, -1, -1}}
	}
	return cells
}

// tie lays an edge between cells, from both ends.
func tie(cells []api.Cell, v, d, w, owner int) {
	cells[v].Next[d], cells[v].Owner[d] = w, owner
	cells[w].Next[opposite[d]], cells[w].Owner[opposite[d]] = v, owner
}

// cellsOf: so many cells with these edges, as "0E5" is one from 0 to the East to 5.
func cellsOf(t *testing.T, n int, edges string) []api.Cell {
	t.Helper()
	cells := loners(n)
	for i, link := range strings.Fields(edges) {
		at := strings.IndexAny(link, "ENWS")
		v, _ := strconv.Atoi(link[:at])
		w, _ := strconv.Atoi(link[at+1:])
		tie(cells, v, strings.Index("ENWS", link[at:at+1]), w, i-2)
	}
	if e := grid.Check(cells); e != api.OK {
		t.Fatalf("%q: %d", edges, e)
	}
	return cells
}

// ring of cells, from the first one to the East; a letter says how one turns behind each edge: left, right, or straight on.
func ring(t *testing.T, turns string) []api.Cell {
	t.Helper()
	cells := loners(len(turns))
	d := api.East
	for v, turn := range turns {
		tie(cells, v, d, (v+1)%len(turns), v)
		switch turn {
		case 'L':
			d = toLeft[d]
		case 'R':
			d = toRight[d]
		}
	}
	if e := grid.Check(cells); e != api.OK || d != api.East {
		t.Fatalf("%q: %d, the direction %d", turns, e, d)
	}
	return cells
}

// aim is a way from a cell.
type aim struct {
	cell, dir int
}

// plainFaces goes round what is to the left, from the least way on that wasn't gone yet.
func plainFaces(cells []api.Cell) [][]aim {
	var faces [][]aim
	gone := map[aim]bool{}
	for v := range cells {
		for d := range 4 {
			var f []aim
			for a := (aim{v, d}); cells[v].Next[d] != -1 && !gone[a]; a, _ = plainBehind(cells, a) {
				gone[a] = true
				f = append(f, a)
			}
			if len(f) > 0 {
				faces = append(faces, f)
			}
		}
	}
	return faces
}

// plainBehind tells what comes behind a way, and how one turns to it.
func plainBehind(cells []api.Cell, a aim) (aim, int) {
	at := cells[a.cell].Next[a.dir]
	switch {
	case cells[at].Next[toLeft[a.dir]] != -1:
		return aim{at, toLeft[a.dir]}, 1
	case cells[at].Next[a.dir] != -1:
		return aim{at, a.dir}, 0
	case cells[at].Next[toRight[a.dir]] != -1:
		return aim{at, toRight[a.dir]}, -1
	}
	return aim{at, opposite[a.dir]}, -2
}

// plainTurns: how one turns behind each way of a face.
func plainTurns(cells []api.Cell, f []aim) []int {
	var turns []int
	for _, a := range f {
		_, turn := plainBehind(cells, a)
		turns = append(turns, turn)
	}
	return turns
}

// step is one that is turned: by how much, and which corner that is, if it is one.
type step struct {
	turn   int
	corner Corner
	is     bool
}

// steps of turns, of which those back are two; what may not be turned is none.
func steps(turns []int) []step {
	var all []step
	for i, turn := range turns {
		switch turn {
		case 1, 0:
			all = append(all, step{turn: turn})
		case -1:
			all = append(all, step{-1, Corner{i, 0}, true})
		case -2:
			all = append(all, step{-1, Corner{i, 0}, true}, step{-1, Corner{i, 1}, true})
		}
	}
	return all
}

// plainCorners are those steps that are corners.
func plainCorners(turns []int) []Corner {
	var all []Corner
	for _, s := range steps(turns) {
		if s.is {
			all = append(all, s.corner)
		}
	}
	return all
}

// turnable: is each turn one of those four that a face can have?
func turnable(turns []int) bool {
	for _, turn := range turns {
		if !slices.Contains([]int{1, 0, -1, -2}, turn) {
			return false
		}
	}
	return true
}

// plainRot goes round step by step, from the one corner till it comes to the other one.
func plainRot(turns []int, a, b Corner) int {
	all := steps(turns)
	at := func(c Corner) int { return slices.IndexFunc(all, func(s step) bool { return s.is && s.corner == c }) }
	sum := 0
	for i := at(a); i != at(b); i = (i + 1) % len(all) {
		sum += all[i].turn
	}
	return sum
}

// plainPair asks each corner, and for each all others.
func plainPair(turns []int) (Corner, Corner, bool) {
	if !turnable(turns) {
		return Corner{}, Corner{}, false
	}
	for _, a := range plainCorners(turns) {
		for _, b := range plainCorners(turns) {
			if plainRot(turns, a, b) == 2 {
				return a, b, true
			}
		}
	}
	return Corner{}, Corner{}, false
}

// plainRegular asks each face of cells that can be drawn.
func plainRegular(cells []api.Cell) bool {
	for _, f := range plainFaces(cells) {
		if _, _, ok := plainPair(plainTurns(cells, f)); ok {
			return false
		}
	}
	return true
}

// eachTurns goes through all lists of so many of these turns.
func eachTurns(n int, of []int, tell func([]int)) {
	turns := make([]int, n)
	var put func(i int)
	put = func(i int) {
		if i == n {
			tell(turns)
			return
		}
		for _, turn := range of {
			turns[i] = turn
			put(i + 1)
		}
	}
	put(0)
}

// joints are all ways to join cells with others that are to one side of them: each has one there, or none, and is that of one, or of none.
func joints(n int) [][]int {
	rows := [][]int{{}}
	for v := range n {
		var longer [][]int
		for _, row := range rows {
			for w := -1; w < n; w++ {
				if w != v && (w == -1 || !slices.Contains(row, w)) {
					longer = append(longer, append(slices.Clone(row), w))
				}
			}
		}
		rows = longer
	}
	return rows
}

// eachGrid goes through all cells, so many, that may be.
func eachGrid(n int, tell func([]api.Cell)) {
	all := joints(n)
	for _, east := range all {
		for _, north := range all {
			cells := loners(n)
			for v := range n {
				if east[v] != -1 {
					tie(cells, v, api.East, east[v], v)
				}
				if north[v] != -1 {
					tie(cells, v, api.North, north[v], v)
				}
			}
			tell(cells)
		}
	}
}

// dice are numbers that look like chance, the same ones in each run.
type dice uint64

func (s *dice) below(n int) int {
	*s = *s*6364136223846793005 + 1442695040888963407
	return int(uint64(*s)>>33) % n
}

// mixed are the numbers below n, each once, in any order.
func (s *dice) mixed(n int) []int {
	all := make([]int, n)
	for i := range all {
		j := s.below(i + 1)
		all[i] = all[j]
		all[j] = i
	}
	return all
}

// wild cells are joined by chance, whether they can be drawn or not.
func wild(s *dice, n, edges int) []api.Cell {
	cells := loners(n)
	for range edges {
		v, d, w := s.below(n), s.below(4), s.below(n)
		if v != w && cells[v].Next[d] == -1 && cells[w].Next[opposite[d]] == -1 {
			tie(cells, v, d, w, s.below(20)-2)
		}
	}
	return cells
}

// bad is a list of cells that may not be, with what layer 10 tells of it.
type bad struct {
	cells []api.Cell
	want  api.Errno
}

// bads are such lists; each can be drawn but for what is wrong, or (the last three) not even that.
func bads(t *testing.T) map[string]bad {
	t.Helper()
	square := func(spoil func(c []api.Cell)) []api.Cell {
		cells := cellsOf(t, 4, "0E1 1N2 2W3 3S0")
		spoil(cells)
		return cells
	}
	row := loners(api.MaxCells + 1)
	for v := range api.MaxCells {
		tie(row, v, api.East, v+1, v)
	}
	apart := cellsOf(t, 3, "0E1")
	apart[2].Next[api.North] = 3
	turned := ring(t, "LRLR")
	turned[3].Owner[api.East] = 1
	return map[string]bad{
		"too many":                {row, api.ErrMany},
		"a next one that is none": {square(func(c []api.Cell) { c[1].Next[api.East] = 4 }), api.ErrRange},
		"next to itself":          {square(func(c []api.Cell) { c[1].Next[api.East] = 1 }), api.ErrRange},
		"below none":              {square(func(c []api.Cell) { c[1].Next[api.East] = -2 }), api.ErrRange},
		"not from both ends":      {square(func(c []api.Cell) { c[1].Next[api.East] = 3 }), api.ErrJoin},
		"two owners":              {square(func(c []api.Cell) { c[3].Owner[api.South] = 9 }), api.ErrJoin},
		"an owner below Dummy":    {square(func(c []api.Cell) { tie(c, 3, api.South, 0, -3) }), api.ErrJoin},
		"an owner of nothing":     {square(func(c []api.Cell) { c[3].Owner[api.West] = 1 }), api.ErrJoin},
		"a cell of zeros":         {[]api.Cell{{}}, api.ErrRange},
		"one with an owner":       {[]api.Cell{{Next: [4]int{-1, -1, -1, -1}, Owner: [4]int{0, 0, 0, 1}}}, api.ErrJoin},
		"too many, and apart":     {loners(api.MaxCells + 1), api.ErrMany},
		"apart, too":              {apart, api.ErrRange},
		"turned wrongly, too":     {turned, api.ErrJoin},
	}
}
