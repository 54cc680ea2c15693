package seg

import (
	"slices"
	"testing"

	"muntin/api"
)

func TestP16_1ByHand(t *testing.T) {
	for _, x := range []struct {
		cells int
		edges string
		want  Chains
	}{
		{0, "", Chains{}},
		{1, "", Chains{X: []int{0}, Y: []int{0}, Vert: [][]int{{0}}, Horz: [][]int{{0}}}},
		{2, "", Chains{X: []int{0, 1}, Y: []int{0, 1}, Vert: [][]int{{0}, {1}}, Horz: [][]int{{0}, {1}}}},
		{2, "0E1", Chains{X: []int{0, 1}, Y: []int{0, 0}, Vert: [][]int{{0}, {1}}, Horz: [][]int{{0, 1}}}},
		{2, "0W1", Chains{X: []int{0, 1}, Y: []int{0, 0}, Vert: [][]int{{0}, {1}}, Horz: [][]int{{1, 0}}}},
		{2, "0N1", Chains{X: []int{0, 0}, Y: []int{0, 1}, Vert: [][]int{{0, 1}}, Horz: [][]int{{0}, {1}}}},
		{2, "0S1", Chains{X: []int{0, 0}, Y: []int{0, 1}, Vert: [][]int{{1, 0}}, Horz: [][]int{{0}, {1}}}},
		// The chapter's example.
		{4, "0E1 1N2 2W3 3S0", Chains{X: []int{0, 1, 1, 0}, Y: []int{0, 0, 1, 1}, Vert: [][]int{{0, 3}, {1, 2}}, Horz: [][]int{{0, 1}, {3, 2}}}},
		// The same square from the other sides.
		{4, "0S1 1W2 2N3 3E0", Chains{X: []int{0, 0, 1, 1}, Y: []int{0, 1, 1, 0}, Vert: [][]int{{1, 0}, {2, 3}}, Horz: [][]int{{3, 0}, {2, 1}}}},
		// By the least cells, not by the first ones: 0 stands last, 1 in the middle.
		{6, "5N3 3N0 4N1 1N2", Chains{X: []int{0, 1, 1, 0, 1, 0}, Y: []int{0, 1, 2, 3, 4, 5}, Vert: [][]int{{5, 3, 0}, {4, 1, 2}}, Horz: [][]int{{0}, {1}, {2}, {3}, {4}, {5}}}},
		{6, "5E3 3E0 2E4 4E1", Chains{X: []int{0, 1, 2, 3, 4, 5}, Y: []int{0, 1, 1, 0, 1, 0}, Vert: [][]int{{0}, {1}, {2}, {3}, {4}, {5}}, Horz: [][]int{{5, 3, 0}, {2, 4, 1}}}},
		// A cross, and a cell that is by itself.
		{6, "5E0 5N1 5W2 5S3", Chains{X: []int{0, 1, 2, 1, 3, 1}, Y: []int{0, 1, 0, 2, 3, 0}, Vert: [][]int{{0}, {3, 5, 1}, {2}, {4}}, Horz: [][]int{{2, 5, 0}, {1}, {3}, {4}}}},
		// Two chains with two cells in common: it can't be drawn, but one doesn't come back.
		{3, "0E1 1E2 0N2", Chains{X: []int{0, 1, 0}, Y: []int{0, 0, 0}, Vert: [][]int{{0, 2}, {1}}, Horz: [][]int{{0, 1, 2}}}},
		{2, "0E1 0N1", Chains{X: []int{0, 0}, Y: []int{0, 0}, Vert: [][]int{{0, 1}}, Horz: [][]int{{0, 1}}}},
	} {
		cells := cellsOf(t, x.cells, x.edges)
		c, err := held(t, cells)
		chainsHeld(t, c)
		if !same(c, x.want) || err != api.OK {
			t.Errorf("%q: %v, %d, not %v", x.edges, c, err, x.want)
		}
	}
}

func TestP16_1OneComesBack(t *testing.T) {
	for _, x := range []struct {
		cells int
		edges string
		want  api.Errno
	}{
		{2, "0E1 1E0", api.ErrTurn},
		{2, "0N1 1N0", api.ErrTurn},
		{2, "0W1 1W0", api.ErrTurn},
		{2, "0S1 1S0", api.ErrTurn},
		{3, "0E1 1E2 2E0", api.ErrTurn},
		{3, "0N2 2N1 1N0", api.ErrTurn},
		{2, "0E1 1E0 0N1 1N0", api.ErrTurn},
		// In one of both directions alone, and not from the first cell on.
		{5, "0E1 1N2 3N4 4N3", api.ErrTurn},
		{5, "0E1 1N2 3E4 4E3", api.ErrTurn},
		{4, "0N1 1E2 2E3 3E1", api.ErrTurn},
		{4, "0E1 1N2 2N3 3N1", api.ErrTurn},
		// By turns one comes back from each cell of these.
		{4, "0E1 1N2 2W3 3S0", api.OK},
		{4, "0E1 1N2 2E3 3N0", api.OK},
		{2, "0E1 0N1", api.OK},
		{2, "0E1 1N0", api.OK},
	} {
		c, err := held(t, cellsOf(t, x.cells, x.edges))
		if err != x.want || err != api.OK && !isNothing(c) {
			t.Errorf("%q: %v, %d, not %d", x.edges, c, err, x.want)
		}
	}
}

// Layer 10's error goes ahead of that of a chain that goes round.
func TestP16_1CellsThatMayNotBe(t *testing.T) {
	for name, x := range bads(t) {
		was := slices.Clone(x.cells)
		if c, err := Of(x.cells); !isNothing(c) || err != x.want {
			t.Errorf("%s: %v, %d, not %d", name, c, err, x.want)
		}
		if !slices.Equal(x.cells, was) {
			t.Errorf("%s: the cells were changed", name)
		}
	}
}

func TestP16_1NoCells(t *testing.T) {
	for _, none := range [][]api.Cell{nil, {}, loners(3)[:0]} {
		c, err := Of(none)
		if !isNothing(c) || err != api.OK {
			t.Errorf("%v, %d", c, err)
		}
		chainsHeld(t, c)
	}
}

// What lies behind a list's length has no part in it.
func TestP16_1BehindTheLength(t *testing.T) {
	cells := cellsOf(t, 8, "0N1 1N2 3E4 5E6 6E5")
	if c, err := held(t, cells[:5]); len(c.Vert) != 3 || len(c.Horz) != 4 || err != api.OK {
		t.Errorf("%v, %d", c, err)
	}
	if c, err := held(t, cells[:7]); !isNothing(c) || err != api.ErrTurn {
		t.Errorf("%v, %d", c, err)
	}
	if c, err := Of(cells[:4]); !isNothing(c) || err != api.ErrRange {
		t.Errorf("%v, %d", c, err)
	}
}

func TestP16_1AtTheLimit(t *testing.T) {
	s := dice(16)
	names := s.mixed(api.MaxCells)
	for _, x := range []struct {
		what       string
		cells      []api.Cell
		vert, horz int
		want       api.Errno
	}{
		{"alone", loners(api.MaxCells), api.MaxCells, api.MaxCells, api.OK},
		{"a row", straight(names, api.East, false), api.MaxCells, 1, api.OK},
		{"a row from its end", straight(names, api.West, false), api.MaxCells, 1, api.OK},
		{"a column", straight(names, api.North, false), 1, api.MaxCells, api.OK},
		{"a column from its end", straight(names, api.South, false), 1, api.MaxCells, api.OK},
		{"a square", plane(&s, names, 64, 0), 64, 64, api.OK},
		{"a round row", straight(names, api.East, true), 0, 0, api.ErrTurn},
		{"a round column", straight(names, api.North, true), 0, 0, api.ErrTurn},
	} {
		c, err := Of(x.cells)
		if len(c.Vert) != x.vert || len(c.Horz) != x.horz || err != x.want {
			t.Errorf("%s: %d and %d chains, %d", x.what, len(c.Vert), len(c.Horz), err)
		}
		held(t, x.cells)
	}
	row, _ := Of(straight(names, api.East, false))
	if !slices.Equal(row.Horz[0], names) || !slices.Equal(row.X, counted(api.MaxCells)) || slices.Max(row.Y) != 0 {
		t.Errorf("a row's cells aren't in their order")
	}
	held(t, plane(&s, names, 50, 4))
	held(t, rows(&s, api.MaxCells))
	held(t, wild(&s, api.MaxCells, 3000))
}

func TestP16_1AllSmallCells(t *testing.T) {
	for n, want := range []int{1, 1, 3, 13, 73} {
		straight := 0
		eachGrid(n, func(cells []api.Cell) {
			c, err := held(t, cells)
			if err == api.OK {
				straight++
				chainsHeld(t, c)
			}
		})
		// In each of the two directions there are so many ways to put n cells into rows, the rows in no order.
		if straight != want*want {
			t.Errorf("%d lists of %d cells have chains, not %d", straight, n, want*want)
		}
	}
}

func TestP16_1CellsByChance(t *testing.T) {
	for seed := range 400 {
		s := dice(seed)
		n := 1 + s.below(40)
		for _, cells := range [][]api.Cell{plane(&s, s.mixed(n), 1+s.below(8), s.below(10)), rows(&s, n), wild(&s, n, s.below(60))} {
			if c, err := held(t, cells); err == api.OK {
				chainsHeld(t, c)
			}
		}
	}
}

// Cells that stand on a plane have all their chain's X, and, from South to North, rising Y; and so on.
func TestP16_1ChainsAreStraight(t *testing.T) {
	for seed := range 100 {
		s := dice(seed)
		wide := 1 + s.below(9)
		names := s.mixed(wide * (1 + s.below(9)))
		spots := make([]api.Point, len(names))
		for i, v := range names {
			spots[v] = api.Point{X: i % wide, Y: i / wide}
		}
		c, err := Of(plane(&s, names, wide, s.below(5)))
		if err != api.OK {
			t.Fatalf("%d", err)
		}
		for _, chain := range c.Vert {
			for i := 1; i < len(chain); i++ {
				if a, b := spots[chain[i-1]], spots[chain[i]]; a.X != b.X || a.Y+1 != b.Y {
					t.Fatalf("%v: %v, %v", chain, a, b)
				}
			}
		}
		for _, chain := range c.Horz {
			for i := 1; i < len(chain); i++ {
				if a, b := spots[chain[i-1]], spots[chain[i]]; a.X+1 != b.X || a.Y != b.Y {
					t.Fatalf("%v: %v, %v", chain, a, b)
				}
			}
		}
	}
}

// No list of an answer shares memory with another one, with another answer's, or with what was handed in.
func TestP16_1AnswersAreNewMemory(t *testing.T) {
	s := dice(3)
	for _, cells := range [][]api.Cell{loners(9), plane(&s, s.mixed(60), 8, 3), rows(&s, 50)} {
		was := slices.Clone(cells)
		one, _ := Of(cells)
		other, _ := Of(cells)
		want := kept(other)
		lists := slices.Concat([][]int{one.X, one.Y}, one.Vert, one.Horz)
		wanted := slices.Concat([][]int{want.X, want.Y}, want.Vert, want.Horz)
		for i, list := range lists {
			if !slices.EqualFunc(lists[i:], wanted[i:], slices.Equal) {
				t.Fatalf("list %d shares memory with an earlier one", i)
			}
			// What is written behind one list's length is not to be seen in another one.
			for j := range list[:cap(list)] {
				list[:cap(list)][j] = -9
			}
		}
		horz := slices.Clone(one.Horz)
		clear(one.Vert[:cap(one.Vert)])
		if !slices.EqualFunc(one.Horz, horz, slices.Equal) {
			t.Fatalf("both kinds of chains share memory")
		}
		clear(one.Horz)
		again, _ := Of(cells)
		if !same(other, want) || !same(again, want) || !slices.Equal(cells, was) {
			t.Errorf("%v, %v, not %v; %v became %v", other, again, want, was, cells)
		}
	}
}

func TestP16_2ByHand(t *testing.T) {
	// Of a square, 0 to 3, an edge goes on from 1 to the East, to 4, and one from 2 to the North, to 5; 6 is by itself.
	c, err := Of(cellsOf(t, 7, "0E1 1N2 2W3 3S0 1E4 2N5"))
	if err != api.OK {
		t.Fatalf("%d", err)
	}
	for _, x := range []struct {
		vertical bool
		i        int
		from, to int
	}{
		{true, 0, 0, 1}, {true, 1, 0, 2}, {true, 2, 0, 0}, {true, 3, 3, 3},
		{false, 0, 0, 2}, {false, 1, 0, 1}, {false, 2, 1, 1}, {false, 3, 3, 3},
	} {
		if from, to := c.Span(x.vertical, x.i); from != x.from || to != x.to {
			t.Errorf("Span(%v, %d) = %d, %d, not %d, %d", x.vertical, x.i, from, to, x.from, x.to)
		}
	}
	// Which horizontal chains meet each vertical one.
	for i, meet := range [][]int{{0, 1}, {0, 1, 2}, {0}, {3}} {
		for k := range 4 {
			want := slices.Contains(meet, k)
			if c.Meet(true, i, false, k) != want || c.Meet(false, k, true, i) != want {
				t.Errorf("vertical %d, horizontal %d: not %v", i, k, want)
			}
			// Of one kind each chain has its own cells.
			if c.Meet(true, i, true, k) != (i == k) || c.Meet(false, i, false, k) != (i == k) {
				t.Errorf("%d and %d of one kind", i, k)
			}
		}
	}
	chainsHeld(t, c)
}

// A span goes from the first cell to the last one, also where its numbers fall.
func TestP16_2SpansFromTheBeginning(t *testing.T) {
	c, _ := Of(cellsOf(t, 3, "2N1 1N0"))
	if from, to := c.Span(true, 0); from != 2 || to != 0 {
		t.Errorf("%d, %d", from, to)
	}
	c, _ = Of(cellsOf(t, 3, "2E1 1E0"))
	if from, to := c.Span(false, 0); from != 2 || to != 0 {
		t.Errorf("%d, %d", from, to)
	}
}

// Chains that have just their middle, or their last cell, in common meet, too.
func TestP16_2MeetAnywhere(t *testing.T) {
	c, _ := Of(cellsOf(t, 5, "4E0 4N1 4W2 4S3"))
	if !c.Meet(true, 1, false, 0) || !c.Meet(false, 0, true, 1) || c.Meet(true, 0, false, 1) {
		t.Errorf("a cross: %v", c)
	}
	c, _ = Of(cellsOf(t, 5, "0E1 1E2 3N4 4N2"))
	if !c.Meet(true, 2, false, 0) || !c.Meet(false, 0, true, 2) || c.Meet(true, 0, false, 1) {
		t.Errorf("at their ends: %v", c)
	}
}

func TestP16_2NoSuchChain(t *testing.T) {
	c, _ := Of(cellsOf(t, 4, "0N1 1N2 2E3"))
	for _, vertical := range []bool{false, true} {
		n := len(kindOf(c, vertical))
		for _, i := range ints {
			is := i >= 0 && i < n
			from, to := c.Span(vertical, i)
			if !is && (from != 0 || to != 0) {
				t.Errorf("Span(%v, %d) = %d, %d", vertical, i, from, to)
			}
			for _, k := range ints {
				for _, other := range []bool{false, true} {
					if met := c.Meet(vertical, i, other, k); met != plainMeet(c, vertical, i, other, k) {
						t.Errorf("Meet(%v, %d, %v, %d) = %v", vertical, i, other, k, met)
					}
				}
			}
		}
	}
}

// Of nothing, and of what Of told beside an error, there are no chains.
func TestP16_2OfNothing(t *testing.T) {
	empty, _ := Of(nil)
	refused, _ := Of(cellsOf(t, 2, "0E1 1E0"))
	for _, c := range []Chains{{}, empty, refused} {
		for _, i := range ints {
			for _, vertical := range []bool{false, true} {
				if from, to := c.Span(vertical, i); from != 0 || to != 0 {
					t.Errorf("Span(%v, %d) = %d, %d", vertical, i, from, to)
				}
				for _, k := range ints {
					if c.Meet(vertical, i, vertical, k) || c.Meet(vertical, i, !vertical, k) {
						t.Errorf("Meet of %d and %d", i, k)
					}
				}
			}
		}
	}
}

// Chains that no call made are none, but they end, too.
func TestP16_2ChainsThatNoCallMade(t *testing.T) {
	for _, c := range []Chains{
		{Vert: [][]int{{}, nil}, Horz: [][]int{nil, {}}},
		{Vert: [][]int{ints}, Horz: [][]int{ints}},
		{X: ints, Y: ints, Vert: [][]int{ints, {}, {0}}, Horz: [][]int{ints, nil, {-1}}},
		{X: []int{0}, Vert: [][]int{{0}, {1}}},
		{Y: []int{0}, Horz: [][]int{{0}, {-1}}},
	} {
		was := kept(c)
		for _, i := range ints {
			for _, vertical := range []bool{false, true} {
				c.Span(vertical, i)
				for _, k := range ints {
					c.Meet(vertical, i, vertical, k)
					c.Meet(vertical, i, !vertical, k)
				}
			}
		}
		if !same(c, was) {
			t.Errorf("%v became %v", was, c)
		}
	}
}

// Cells of which no chain of the other kind is told are in none.
func TestP16_2NoChainIsTold(t *testing.T) {
	for _, c := range []Chains{{Vert: [][]int{{0, 1}}, X: []int{0, 0}}, {Horz: [][]int{{0, 1}}, Y: []int{0, 0}}} {
		for _, vertical := range []bool{false, true} {
			if c.Meet(vertical, 0, !vertical, 0) {
				t.Errorf("%v: Meet(%v, 0, %v, 0)", c, vertical, !vertical)
			}
			if from, to := c.Span(vertical, 0); from != 0 || to != 0 {
				t.Errorf("%v: Span(%v, 0) = %d, %d", c, vertical, from, to)
			}
		}
	}
}

// All chains of the greatest square are asked for all others.
func TestP16_2AtTheLimit(t *testing.T) {
	s := dice(2)
	c, _ := Of(plane(&s, s.mixed(api.MaxCells), 64, 0))
	for i := range 64 {
		for k := range 64 {
			if !c.Meet(true, i, false, k) || !c.Meet(false, k, true, i) || c.Meet(true, i, true, k) != (i == k) || c.Meet(false, i, false, k) != (i == k) {
				t.Fatalf("%d, %d", i, k)
			}
		}
		from, to := plainSpan(c, true, i)
		if a, b := c.Span(true, i); a != from || b != to {
			t.Errorf("%d: %d, %d, not %d, %d", i, a, b, from, to)
		}
	}
}

func TestP16_3EachCellOnce(t *testing.T) {
	told := 0
	for seed := range 300 {
		s := dice(seed)
		n := s.below(200)
		for _, cells := range [][]api.Cell{plane(&s, s.mixed(n), 1+s.below(20), s.below(10)), rows(&s, n), loners(n)} {
			c, err := Of(cells)
			if err != api.OK {
				t.Fatalf("%v: %d", cells, err)
			}
			eachOnce(t, c, n)
			for v := range n {
				if !slices.Contains(c.Vert[c.X[v]], v) || !slices.Contains(c.Horz[c.Y[v]], v) {
					t.Fatalf("%v: %d isn't where it is told to be", c, v)
				}
			}
			told++
		}
	}
	if told != 900 {
		t.Errorf("%d", told)
	}
}
