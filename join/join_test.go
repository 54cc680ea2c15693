package join

import (
	"math"
	"slices"
	"testing"

	"muntin/api"
)

// partsHeld holds Parts and Whole of cells that may be to the chapter's words, but for whether all of a part hang together: each cell's part.
func partsHeld(t *testing.T, cells []api.Cell) []int {
	t.Helper()
	parts, err := Parts(cells)
	if err != api.OK {
		t.Fatalf("Parts(%v): %d", cells, err)
	}
	partOf := make([]int, len(cells))
	first, count := -1, 0
	for i, part := range parts {
		if len(part) == 0 || part[0] <= first {
			t.Fatalf("Parts(%v) = %v: out of order at %d", cells, parts, i)
		}
		first = part[0]
		for j, v := range part {
			if v >= len(cells) || j > 0 && v <= part[j-1] || partOf[v] != 0 {
				t.Fatalf("Parts(%v) = %v: %d isn't rising, or in two", cells, parts, v)
			}
			partOf[v] = i + 1
			count++
		}
	}
	if count != len(cells) {
		t.Fatalf("Parts(%v) = %v: %d cells of %d", cells, parts, count, len(cells))
	}
	eachEdge(cells, func(v, w int) {
		if partOf[v] != partOf[w] {
			t.Fatalf("Parts(%v) = %v: %d is next to %d", cells, parts, v, w)
		}
	})
	if Whole(cells) != (len(parts) == 1) {
		t.Fatalf("Whole(%v) = %v, of the parts %v", cells, Whole(cells), parts)
	}
	return partOf
}

// pathsHeld holds all paths from a cell, and so the part that it is in, to the chapter's words.
func pathsHeld(t *testing.T, cells []api.Cell, partOf []int, v int) {
	t.Helper()
	long := make([]int, len(cells))
	for w := range cells {
		path, err := Path(cells, v, w)
		if partOf[w] != partOf[v] {
			if len(path) != 0 || err != api.ErrApart {
				t.Fatalf("Path(%v, %d, %d) = %v, %d", cells, v, w, path, err)
			}
			continue
		}
		if at := follow(cells, v, path); at != w || err != api.OK {
			t.Fatalf("Path(%v, %d, %d) = %v, %d: it leads to %d", cells, v, w, path, err, at)
		}
		long[w] = len(path)
	}
	// None is longer than one of another cell with a step more: so none is longer than any other way.
	if long[v] != 0 {
		t.Fatalf("%v: from %d to itself %d steps", cells, v, long[v])
	}
	eachEdge(cells, func(u, w int) {
		if long[w] > long[u]+1 {
			t.Fatalf("%v: from %d to %d %d steps, but to %d %d", cells, v, w, long[w], u, long[u])
		}
	})
}

// eachEdge of cells that may be, from both ends.
func eachEdge(cells []api.Cell, tell func(v, w int)) {
	for v, c := range cells {
		for _, w := range c.Next {
			if w != -1 {
				tell(v, w)
			}
		}
	}
}

// follow a path: where it leads; -1, if there is no such path.
func follow(cells []api.Cell, v int, path []int) int {
	for _, d := range path {
		if d < 0 || d > 3 || cells[v].Next[d] == -1 {
			return -1
		}
		v = cells[v].Next[d]
	}
	return v
}

// allHeld holds all that can be asked of cells that may be to the chapter's words.
func allHeld(t *testing.T, cells []api.Cell) {
	t.Helper()
	was := slices.Clone(cells)
	partOf := partsHeld(t, cells)
	for v := range cells {
		pathsHeld(t, cells, partOf, v)
	}
	if !slices.Equal(cells, was) {
		t.Fatalf("%v became %v", was, cells)
	}
}

func TestP13_1ByHand(t *testing.T) {
	for _, x := range []struct {
		cells int
		edges string
		parts [][]int
	}{
		{0, "", nil},
		{1, "", [][]int{{0}}},
		{2, "", [][]int{{0}, {1}}},
		{2, "0E1", [][]int{{0, 1}}},
		{2, "0N1", [][]int{{0, 1}}},
		{2, "0W1", [][]int{{0, 1}}},
		{2, "0S1", [][]int{{0, 1}}},
		// The chapter's example.
		{3, "0E1", [][]int{{0, 1}, {2}}},
		{3, "0E2", [][]int{{0, 2}, {1}}},
		{3, "1S2", [][]int{{0}, {1, 2}}},
		// What is nearest isn't the least.
		{4, "0E3 3E1 1E2", [][]int{{0, 1, 2, 3}}},
		{6, "0E5 5N3 1W4", [][]int{{0, 3, 5}, {1, 4}, {2}}},
		{6, "5S0 4S1 3S2", [][]int{{0, 5}, {1, 4}, {2, 3}}},
		{5, "4E3 4N2 4W1 4S0", [][]int{{0, 1, 2, 3, 4}}},
		{4, "0E1 1N2 2W3 3S0", [][]int{{0, 1, 2, 3}}},
		// What can't be drawn hangs together, too.
		{2, "0E1 1E0", [][]int{{0, 1}}},
		{4, "0E1 1N2 2E3 3N0", [][]int{{0, 1, 2, 3}}},
	} {
		cells := cellsOf(t, x.cells, x.edges)
		allHeld(t, cells)
		if parts, err := Parts(cells); !slices.EqualFunc(parts, x.parts, slices.Equal) || err != api.OK {
			t.Errorf("%q: %v, %d, not %v", x.edges, parts, err, x.parts)
		}
		if whole := Whole(cells); whole != (len(x.parts) == 1) {
			t.Errorf("%q: whole %v", x.edges, whole)
		}
	}
}

func TestP13_1NoCells(t *testing.T) {
	for _, none := range [][]api.Cell{nil, {}, cellsOf(t, 3, "0E1 1E2")[:0]} {
		if parts, err := Parts(none); len(parts) != 0 || err != api.OK || Whole(none) {
			t.Errorf("%v, %d, whole %v", parts, err, Whole(none))
		}
	}
}

func TestP13_1CellsThatMayNotBe(t *testing.T) {
	for name, x := range bads(t) {
		if parts, err := Parts(x.cells); len(parts) != 0 || err != x.want {
			t.Errorf("%s: Parts = %v, %d, not %d", name, parts, err, x.want)
		}
		if Whole(x.cells) {
			t.Errorf("%s: whole", name)
		}
	}
	// One part, but for what is wrong.
	cells := cellsOf(t, 2, "0E1")
	cells[1].Owner[api.North] = 1
	if parts, err := Parts(cells); len(parts) != 0 || err != api.ErrJoin || Whole(cells) {
		t.Errorf("%v, %d, whole %v", parts, err, Whole(cells))
	}
}

// What lies behind a list's length has no part in it.
func TestP13_1BehindTheLength(t *testing.T) {
	cells := cellsOf(t, 4, "0E1 2E3")
	allHeld(t, cells[:2])
	if parts, err := Parts(cells[:2]); len(parts) != 1 || err != api.OK || !Whole(cells[:2]) {
		t.Errorf("%v, %d", parts, err)
	}
	if parts, err := Parts(cells[:3]); len(parts) != 0 || err != api.ErrRange {
		t.Errorf("%v, %d", parts, err)
	}
	if path, err := Path(cells[:2], 0, 2); len(path) != 0 || err != api.ErrArg {
		t.Errorf("%v, %d", path, err)
	}
}

func TestP13_1AtTheLimit(t *testing.T) {
	alone := cellsOf(t, api.MaxCells, "")
	if parts, err := Parts(alone); len(parts) != api.MaxCells || err != api.OK || Whole(alone) {
		t.Errorf("alone: %d parts, %d", len(parts), err)
	}
	partsHeld(t, alone)
	s := dice(13)
	for _, wide := range []int{1, 2, 64, api.MaxCells} {
		cells := plane(t, &s, s.mixed(api.MaxCells), wide, 0)
		partsHeld(t, cells)
		if !Whole(cells) {
			t.Errorf("%d wide: not whole", wide)
		}
		if parts, _ := Parts(cells); len(parts) != 1 || !slices.Equal(parts[0], counted(api.MaxCells)) {
			t.Errorf("%d wide: %d parts", wide, len(parts))
		}
		partsHeld(t, plane(t, &s, s.mixed(api.MaxCells), wide, 5))
	}
	partsHeld(t, wild(t, &s, api.MaxCells, 4000))
}

func TestP13_1AllSmallCells(t *testing.T) {
	seen := 0
	for n := range 5 {
		eachGrid(t, n, func(cells []api.Cell) {
			seen++
			allHeld(t, cells)
		})
	}
	// In each of the two directions there are 1, 1, 4, 18 and 108 ways to join 0 to 4 cells.
	if seen != 1+1+4*4+18*18+108*108 {
		t.Errorf("%d lists of cells", seen)
	}
}

func TestP13_1CellsByChance(t *testing.T) {
	for seed := range 200 {
		s := dice(seed)
		n := 1 + s.below(40)
		allHeld(t, plane(t, &s, s.mixed(n), 1+s.below(8), s.below(10)))
		allHeld(t, wild(t, &s, n, s.below(60)))
	}
}

// No list of an answer shares memory with another one, or with what was handed in.
func TestP13_1AnswersAreNewMemory(t *testing.T) {
	s := dice(3)
	cells := plane(t, &s, s.mixed(60), 8, 5)
	was := slices.Clone(cells)
	one, _ := Parts(cells)
	other, _ := Parts(cells)
	if len(one) < 5 || !slices.EqualFunc(one, other, slices.Equal) {
		t.Fatalf("%v, %v", one, other)
	}
	for i := range one {
		// What is written behind one list's length is not to be seen in another one.
		_ = append(one[i], -7, -7, -7, -7, -7, -7, -7, -7)
		clear(one[i])
		if !slices.EqualFunc(one[i+1:], other[i+1:], slices.Equal) {
			t.Fatalf("part %d shares memory with a later one", i)
		}
	}
	again, _ := Parts(cells)
	if !slices.EqualFunc(again, other, slices.Equal) || !slices.Equal(cells, was) {
		t.Errorf("%v, %v; %v became %v", again, other, was, cells)
	}
}

func TestP13_2ByHand(t *testing.T) {
	for _, x := range []struct {
		cells int
		edges string
		v, w  int
		path  string
	}{
		{1, "", 0, 0, ""},
		{2, "0E1", 0, 1, "E"},
		{2, "0E1", 1, 0, "W"},
		{2, "0E1", 1, 1, ""},
		{2, "0N1", 0, 1, "N"},
		{2, "0N1", 1, 0, "S"},
		{2, "0W1", 0, 1, "W"},
		{2, "0S1", 0, 1, "S"},
		{3, "0E2 2N1", 0, 1, "EN"},
		{3, "0E2 2N1", 1, 0, "SW"},
		{4, "3W2 2W1 1S0", 3, 0, "WWS"},
		{4, "3W2 2W1 1S0", 0, 3, "NEE"},
		// Round a square with two cells on its left side: the way over the right one is shorter.
		{6, "0E1 1N2 2W3 3S4 4S5 5S0", 1, 3, "NW"},
		{6, "0E1 1N2 2W3 3S4 4S5 5S0", 3, 1, "ES"},
		{6, "0E1 1N2 2W3 3S4 4S5 5S0", 1, 4, "NWS"},
		{6, "0E1 1N2 2W3 3S4 4S5 5S0", 1, 5, "WN"},
		// What can't be drawn has paths, too: straight on, one comes back to where one was.
		{3, "0E1 1E2 2E0", 0, 2, "W"},
		{3, "0E1 1E2 2E0", 2, 1, "W"},
		{3, "0E1 1E2 2E0", 2, 0, "E"},
	} {
		cells := cellsOf(t, x.cells, x.edges)
		if path, err := Path(cells, x.v, x.w); !slices.Equal(path, directionsOf(x.path)) || err != api.OK {
			t.Errorf("%q: from %d to %d %v, %d, not %q", x.edges, x.v, x.w, path, err, x.path)
		}
	}
}

func TestP13_2Apart(t *testing.T) {
	cells := cellsOf(t, 5, "0E1 1N2 3N4")
	for v := range 5 {
		for w := range 5 {
			want := api.OK
			if (v < 3) != (w < 3) {
				want = api.ErrApart
			}
			path, err := Path(cells, v, w)
			if err != want || err != api.OK && len(path) != 0 {
				t.Errorf("from %d to %d: %v, %d, not %d", v, w, path, err, want)
			}
		}
	}
}

func TestP13_2WrongCells(t *testing.T) {
	cells := cellsOf(t, 4, "0E1 1N2")
	for _, v := range ints {
		for _, w := range ints {
			want := api.OK
			switch {
			case v < 0 || v > 3 || w < 0 || w > 3:
				want = api.ErrArg
			case v != w && (v == 3 || w == 3):
				want = api.ErrApart
			}
			path, err := Path(cells, v, w)
			if err != want || err != api.OK && len(path) != 0 {
				t.Errorf("from %d to %d: %v, %d, not %d", v, w, path, err, want)
			}
			for _, none := range [][]api.Cell{nil, {}} {
				if path, err := Path(none, v, w); len(path) != 0 || err != api.ErrArg {
					t.Errorf("of nothing, from %d to %d: %v, %d", v, w, path, err)
				}
			}
		}
	}
}

// Layer 10's error goes ahead of those of the cells that are named.
func TestP13_2CellsThatMayNotBe(t *testing.T) {
	for name, x := range bads(t) {
		for _, v := range ints {
			for _, w := range []int{0, 1, 2, -1, math.MinInt, len(x.cells) - 1, len(x.cells), v} {
				if path, err := Path(x.cells, v, w); len(path) != 0 || err != x.want {
					t.Errorf("%s: from %d to %d: %v, %d, not %d", name, v, w, path, err, x.want)
				}
			}
		}
	}
}

func TestP13_2AtTheLimit(t *testing.T) {
	s := dice(21)
	names := s.mixed(api.MaxCells)
	last := api.MaxCells - 1
	row := plane(t, &s, names, api.MaxCells, 0)
	if path, err := Path(row, names[0], names[last]); !slices.Equal(path, make([]int, last)) || err != api.OK {
		t.Errorf("along a row: %d steps, %d", len(path), err)
	}
	square := plane(t, &s, names, 64, 0)
	if path, err := Path(square, names[last], names[0]); len(path) != 126 || err != api.OK || follow(square, names[last], path) != names[0] {
		t.Errorf("across a square: %d steps, %d", len(path), err)
	}
	if path, err := Path(square, last, api.MaxCells); len(path) != 0 || err != api.ErrArg {
		t.Errorf("behind the last cell: %v, %d", path, err)
	}
	for _, cells := range [][]api.Cell{square, plane(t, &s, names, 64, 3), wild(t, &s, api.MaxCells, 9000)} {
		pathsHeld(t, cells, partsHeld(t, cells), s.below(api.MaxCells))
	}
}

// Which path it is is free, but it is the same one each time, and in memory of its own.
func TestP13_2AnswersAreNewMemory(t *testing.T) {
	cells := plane(t, new(dice), counted(36), 6, 0)
	was := slices.Clone(cells)
	one, _ := Path(cells, 0, 35)
	other, _ := Path(cells, 0, 35)
	if len(one) != 10 || !slices.Equal(one, other) {
		t.Fatalf("%v, %v", one, other)
	}
	kept := slices.Clone(other)
	for i := range one {
		one[i] = -7
	}
	again, _ := Path(cells, 0, 35)
	if !slices.Equal(other, kept) || !slices.Equal(again, kept) || !slices.Equal(cells, was) {
		t.Errorf("%v, %v, not %v; %v became %v", other, again, kept, was, cells)
	}
}
