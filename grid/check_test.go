package grid

import (
	"math"
	"slices"
	"testing"

	"muntin/api"
)

// lone is a cell without edges.
var lone = api.Cell{Next: [4]int{-1, -1, -1, -1}}

// opposite of each direction, written out.
var opposite = [4]int{api.West, api.South, api.East, api.North}

// loners are so many cells without edges.
func loners(n int) []api.Cell {
	cells := make([]api.Cell, n)
	for i := range cells {
		cells[i] = lone
	}
	return cells
}

// tie lays an edge between cells, from both ends.
func tie(cells []api.Cell, v, d, w, owner int) {
	cells[v].Next[d], cells[v].Owner[d] = w, owner
	cells[w].Next[opposite[d]], cells[w].Owner[opposite[d]] = v, owner
}

// square has its corners counted from its low left one, round to the left; each edge has an owner of its own.
func square() []api.Cell {
	cells := loners(4)
	tie(cells, 0, api.East, 1, 0)
	tie(cells, 1, api.North, 2, 1)
	tie(cells, 2, api.West, 3, api.Cage)
	tie(cells, 3, api.South, 0, api.Dummy)
	return cells
}

// wrongs of a side, as the promise's sentence names them: first another cell, then all that joins.
func wrongs(cells []api.Cell, v, d int) api.Errno {
	next, owner := cells[v].Next[d], cells[v].Owner[d]
	another := false
	for w := range cells {
		another = another || w != v && w == next
	}
	switch {
	case next != -1 && !another:
		return api.ErrRange
	case another && cells[next].Next[opposite[d]] != v:
		return api.ErrJoin
	case another && cells[next].Owner[opposite[d]] != owner:
		return api.ErrJoin
	case owner < -2:
		return api.ErrJoin
	case next == -1 && owner != 0:
		return api.ErrJoin
	}
	return api.OK
}

// plainCheck goes through all that is wrong and takes the first.
func plainCheck(cells []api.Cell) api.Errno {
	for v := range cells {
		for d := 0; d < 4; d++ {
			if e := wrongs(cells, v, d); e != api.OK {
				return e
			}
		}
	}
	return api.OK
}

// holdCheck holds Check and Of of cells to an error, and the cells to what they were.
func holdCheck(t *testing.T, cells []api.Cell, want api.Errno) {
	t.Helper()
	was := slices.Clone(cells)
	if got := Check(cells); got != want {
		t.Fatalf("Check(%v) = %d, not %d", cells, got, want)
	}
	g, got := Of(cells)
	if got != want || (g == nil) != (want != api.OK) {
		t.Fatalf("Of(%v) = %v, %d, not %d", cells, g, got, want)
	}
	if want == api.OK && (g.Len() != len(cells) || !slices.Equal(g.Cells(), cells)) {
		t.Fatalf("Of(%v) has the cells %v", cells, g.Cells())
	}
	if !slices.Equal(was, cells) {
		t.Fatalf("%v became %v", was, cells)
	}
}

func TestP10_1CheckByHand(t *testing.T) {
	holdCheck(t, nil, api.OK)
	holdCheck(t, []api.Cell{}, api.OK)
	holdCheck(t, loners(1), api.OK)
	holdCheck(t, loners(3), api.OK)
	holdCheck(t, square(), api.OK)
	for d := range 4 {
		two := loners(2)
		tie(two, 0, d, 1, 7)
		holdCheck(t, two, api.OK)
	}
}

// Two cells may be next to one another by several edges, also so that one comes back to where one was.
func TestP10_1CheckManyEdgesOfTwoCells(t *testing.T) {
	for sides := range 16 {
		cells := loners(2)
		for d := range 4 {
			if sides>>d&1 == 1 {
				tie(cells, 0, d, 1, d)
			}
		}
		holdCheck(t, cells, api.OK)
	}
}

func TestP10_1CheckWrong(t *testing.T) {
	for name, c := range map[string]struct {
		spoil func(cells []api.Cell)
		want  api.Errno
	}{
		"next is the cell itself":           {func(c []api.Cell) { c[2].Next[api.East] = 2 }, api.ErrRange},
		"next is the cell itself, back too": {func(c []api.Cell) { c[2].Next[api.East], c[2].Next[api.West] = 2, 2 }, api.ErrRange},
		"next is behind the last":           {func(c []api.Cell) { c[2].Next[api.East] = 4 }, api.ErrRange},
		"next is below none":                {func(c []api.Cell) { c[2].Next[api.East] = -2 }, api.ErrRange},
		"next is the least int":             {func(c []api.Cell) { c[2].Next[api.East] = math.MinInt }, api.ErrRange},
		"next is the greatest int":          {func(c []api.Cell) { c[2].Next[api.East] = math.MaxInt }, api.ErrRange},
		"the other one has none":            {func(c []api.Cell) { c[2].Next[api.East] = 1 }, api.ErrJoin},
		"the other one has another":         {func(c []api.Cell) { c[1].Next[api.West] = 2 }, api.ErrJoin},
		"an edge's end is gone":             {func(c []api.Cell) { c[0].Next[api.East], c[0].Owner[api.East] = -1, 0 }, api.ErrJoin},
		"the owners are unlike":             {func(c []api.Cell) { c[1].Owner[api.North] = 0 }, api.ErrJoin},
		"the owner is below Dummy":          {func(c []api.Cell) { tie(c, 0, api.East, 1, -3) }, api.ErrJoin},
		"the owner is the least int":        {func(c []api.Cell) { tie(c, 0, api.East, 1, math.MinInt) }, api.ErrJoin},
		"the owner is the greatest int":     {func(c []api.Cell) { tie(c, 0, api.East, 1, math.MaxInt) }, api.OK},
		"the owner of none is 1":            {func(c []api.Cell) { c[3].Owner[api.West] = 1 }, api.ErrJoin},
		"the owner of none is Cage":         {func(c []api.Cell) { c[3].Owner[api.West] = api.Cage }, api.ErrJoin},
		"the owner of none is below Dummy":  {func(c []api.Cell) { c[3].Owner[api.West] = -3 }, api.ErrJoin},
		"out of range and a bad owner":      {func(c []api.Cell) { c[3].Next[api.West], c[3].Owner[api.West] = 4, -3 }, api.ErrRange},
	} {
		t.Run(name, func(t *testing.T) {
			cells := square()
			c.spoil(cells)
			holdCheck(t, cells, c.want)
		})
	}
}

// One cell alone: all of its sides, with next cells and owners about what may be.
func TestP10_1CheckEveryCellAlone(t *testing.T) {
	nexts := []int{-2, -1, 0, 1}
	owners := []int{-3, -2, 0, 1}
	all := len(nexts) * len(owners)
	cells := loners(1)
	for code := range all * all * all * all {
		for d := range 4 {
			cells[0].Next[d] = nexts[code%len(nexts)]
			code /= len(nexts)
			cells[0].Owner[d] = owners[code%len(owners)]
			code /= len(owners)
		}
		if got, want := Check(cells), plainCheck(cells); got != want {
			t.Fatalf("Check(%v) = %d, not %d", cells, got, want)
		}
	}
}

// Two cells: three of their sides, with next cells and owners about what may be, and at the edges of ints.
func TestP10_1CheckEveryPair(t *testing.T) {
	nexts := []int{math.MinInt, -2, -1, 0, 1, 2, math.MaxInt}
	owners := []int{math.MinInt, -3, -2, -1, 0, 5, math.MaxInt}
	all := len(nexts) * len(owners)
	for _, sides := range [][3][2]int{
		{{0, api.East}, {1, api.West}, {1, api.East}},
		{{0, api.North}, {1, api.South}, {0, api.South}},
		{{0, api.West}, {1, api.East}, {1, api.South}},
		{{0, api.South}, {1, api.North}, {0, api.East}},
	} {
		for code := range all * all * all {
			cells := loners(2)
			for _, s := range sides {
				cells[s[0]].Next[s[1]] = nexts[code%len(nexts)]
				code /= len(nexts)
				cells[s[0]].Owner[s[1]] = owners[code%len(owners)]
				code /= len(owners)
			}
			if got, want := Check(cells), plainCheck(cells); got != want {
				t.Fatalf("Check(%v) = %d, not %d", cells, got, want)
			}
		}
	}
}

// Of two wrong sides, the one that is gone through first is told.
func TestP10_1CheckTheFirstWrong(t *testing.T) {
	for first := range 16 {
		for second := first + 1; second < 16; second++ {
			cells := loners(4)
			cells[first/4].Next[first%4] = 4
			cells[second/4].Owner[second%4] = 1
			holdCheck(t, cells, api.ErrRange)
			cells = loners(4)
			cells[first/4].Owner[first%4] = 1
			cells[second/4].Next[second%4] = 4
			holdCheck(t, cells, api.ErrJoin)
		}
	}
}

func TestP10_1CheckAtTheLimit(t *testing.T) {
	row := loners(api.MaxCells)
	for v := range api.MaxCells - 1 {
		tie(row, v, api.North, v+1, v)
	}
	holdCheck(t, row, api.OK)
	tie(row, api.MaxCells-1, api.North, 0, 0)
	holdCheck(t, row, api.OK)
	row[api.MaxCells-1].Owner[api.East] = 1
	holdCheck(t, row, api.ErrJoin)
	row[0].Next[api.West] = api.MaxCells
	holdCheck(t, row, api.ErrRange)
	holdCheck(t, loners(api.MaxCells+1), api.ErrMany)
	holdCheck(t, append(row, lone), api.ErrMany)
}

// What lies behind a list's length is no cell.
func TestP10_1CheckBehindTheLength(t *testing.T) {
	cells := square()
	tie(cells, 1, api.East, 2, 9)
	holdCheck(t, cells[:2], api.ErrRange)
	longer := append(loners(3), square()...)
	holdCheck(t, longer[:3], api.OK)
	g, _ := Of(longer[:3])
	if v, err := g.Add(); v != 3 || err != api.OK {
		t.Fatalf("Add() = %d, %d", v, err)
	}
	if !slices.Equal(longer[3:], square()) {
		t.Errorf("behind the length there is %v now", longer[3:])
	}
	if !slices.Equal(g.Cells(), loners(4)) {
		t.Errorf("the grid has %v", g.Cells())
	}
	if got := g.Cells(); !slices.Equal(got[:cap(got)][len(got):], make([]api.Cell, cap(got)-len(got))) {
		t.Errorf("handed out behind the length: %v", got[:cap(got)])
	}
}

func TestP10_1OfSharesNothing(t *testing.T) {
	cells := square()
	g, err := Of(cells)
	if err != api.OK {
		t.Fatal(err)
	}
	clear(cells)
	if !slices.Equal(g.Cells(), square()) {
		t.Errorf("the grid keeps what it was made of: %v", g.Cells())
	}
	other := square()
	g, _ = Of(other)
	if _, err := g.Split(0, api.East); err != api.OK {
		t.Fatal(err)
	}
	if !slices.Equal(other, square()) {
		t.Errorf("the grid changed what it was made of: %v", other)
	}
}

func TestP10_1New(t *testing.T) {
	for _, n := range []int{0, 1, 2, 3, 100, api.MaxCells - 1, api.MaxCells} {
		g, err := New(n)
		if err != api.OK || g == nil || g.Len() != n || !slices.Equal(g.Cells(), loners(n)) {
			t.Errorf("New(%d) = %v, %d", n, g.Cells(), err)
		}
	}
	for n, want := range map[int]api.Errno{
		-1:               api.ErrArg,
		-5000:            api.ErrArg,
		math.MinInt:      api.ErrArg,
		api.MaxCells + 1: api.ErrMany,
		math.MaxInt:      api.ErrMany,
	} {
		if g, err := New(n); g != nil || err != want {
			t.Errorf("New(%d) = %v, %d, not nil, %d", n, g, err, want)
		}
	}
}
