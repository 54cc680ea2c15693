package grid

import (
	"math"
	"slices"
	"testing"

	"muntin/api"
)

// ints at which a number of a cell, a direction or an owner may go wrong.
var ints = []int{math.MinInt, math.MinInt + 1, -4, -3, -2, -1, 0, 1, 2, 3, 4, 5, api.MaxCells, math.MaxInt - 1, math.MaxInt}

// made is a grid of cells that may be.
func made(t *testing.T, cells []api.Cell) *Grid {
	t.Helper()
	g, err := Of(cells)
	if err != api.OK {
		t.Fatalf("Of(%v): %d", cells, err)
	}
	return g
}

// holdCells holds a grid to its cells, by all that tells of them, and to P10.4.
func holdCells(t *testing.T, g *Grid, want []api.Cell) {
	t.Helper()
	got := g.Cells()
	if !slices.Equal(got, want) || g.Len() != len(want) {
		t.Fatalf("%d cells %v, not %v", g.Len(), got, want)
	}
	if err := Check(got); err != api.OK {
		t.Fatalf("Check(%v) = %d", got, err)
	}
	for v := range want {
		for d := range 4 {
			w, owner, ok := g.Next(v, d)
			if want[v].Next[d] == -1 && (w != 0 || owner != 0 || ok) {
				t.Fatalf("Next(%d, %d) = %d, %d, %v", v, d, w, owner, ok)
			}
			if want[v].Next[d] != -1 && (w != want[v].Next[d] || owner != want[v].Owner[d] || !ok) {
				t.Fatalf("Next(%d, %d) = %d, %d, %v", v, d, w, owner, ok)
			}
		}
	}
}

func TestP10_2Next(t *testing.T) {
	g := made(t, square())
	holdCells(t, g, square())
	if w, owner, ok := g.Next(3, api.South); w != 0 || owner != api.Dummy || !ok {
		t.Errorf("Next(3, South) = %d, %d, %v", w, owner, ok)
	}
	if w, owner, ok := g.Next(0, api.East); w != 1 || owner != 0 || !ok {
		t.Errorf("Next(0, East) = %d, %d, %v", w, owner, ok)
	}
	for _, v := range ints {
		for _, d := range ints {
			w, owner, ok := g.Next(v, d)
			if (v < 0 || v > 3 || d < 0 || d > 3) && (w != 0 || owner != 0 || ok) {
				t.Errorf("Next(%d, %d) = %d, %d, %v", v, d, w, owner, ok)
			}
		}
	}
}

func TestP10_2CellsAreNew(t *testing.T) {
	g := made(t, square())
	one, other := g.Cells(), g.Cells()
	clear(one)
	if !slices.Equal(other, square()) {
		t.Error("two answers of Cells share memory")
	}
	holdCells(t, g, square())
	kept := g.Cells()
	g.Split(0, api.East)
	g.Add()
	if !slices.Equal(kept, square()) {
		t.Errorf("cells that were handed out became %v", kept)
	}
}

func TestP10_2NilGrid(t *testing.T) {
	var g *Grid
	if c := g.Cells(); len(c) != 0 {
		t.Errorf("Cells() = %v", c)
	}
	if n := g.Len(); n != 0 {
		t.Errorf("Len() = %d", n)
	}
	for _, v := range ints {
		for _, d := range ints {
			if w, owner, ok := g.Next(v, d); w != 0 || owner != 0 || ok {
				t.Errorf("Next(%d, %d) = %d, %d, %v", v, d, w, owner, ok)
			}
		}
	}
}

func TestP10_3NilGrid(t *testing.T) {
	var g *Grid
	if v, err := g.Add(); v != 0 || err != api.ErrNil {
		t.Errorf("Add() = %d, %d", v, err)
	}
	for _, v := range ints {
		for _, d := range ints {
			if err := g.Join(v, d, 1, 0); err != api.ErrNil {
				t.Errorf("Join(%d, %d, 1, 0) = %d", v, d, err)
			}
			if u, err := g.Split(v, d); u != 0 || err != api.ErrNil {
				t.Errorf("Split(%d, %d) = %d, %d", v, d, u, err)
			}
		}
	}
}

func TestP10_3Add(t *testing.T) {
	g, _ := New(0)
	for i := range 5 {
		if v, err := g.Add(); v != i || err != api.OK {
			t.Fatalf("Add() = %d, %d, not %d", v, err, i)
		}
		holdCells(t, g, loners(i+1))
	}
	g = made(t, square())
	if v, err := g.Add(); v != 4 || err != api.OK {
		t.Fatalf("Add() = %d, %d", v, err)
	}
	holdCells(t, g, append(square(), lone))
}

// The chapter's example.
func TestP10_3Example(t *testing.T) {
	g, err := New(2)
	if err != api.OK {
		t.Fatal(err)
	}
	if err := g.Join(0, api.East, 1, 0); err != api.OK {
		t.Fatal(err)
	}
	if u, err := g.Split(0, api.East); u != 2 || err != api.OK {
		t.Fatalf("Split(0, East) = %d, %d", u, err)
	}
	if w, owner, ok := g.Next(2, api.East); w != 1 || owner != 0 || !ok {
		t.Errorf("Next(2, East) = %d, %d, %v", w, owner, ok)
	}
}

func TestP10_3Join(t *testing.T) {
	for d := range 4 {
		for _, owner := range []int{api.Dummy, api.Cage, 0, 1, api.MaxCells, math.MaxInt} {
			g, _ := New(3)
			want := loners(3)
			tie(want, 2, d, 0, owner)
			if err := g.Join(2, d, 0, owner); err != api.OK {
				t.Fatalf("Join(2, %d, 0, %d) = %d", d, owner, err)
			}
			holdCells(t, g, want)
		}
	}
}

// Two cells may be joined once more by sides that are free.
func TestP10_3JoinAgain(t *testing.T) {
	g, _ := New(2)
	want := loners(2)
	for d := range 4 {
		if err := g.Join(0, d, 1, d); err != api.OK {
			t.Fatalf("Join(0, %d, 1, %d) = %d", d, d, err)
		}
		tie(want, 0, d, 1, d)
		holdCells(t, g, want)
	}
	for d := range 4 {
		for v := range 2 {
			if err := g.Join(v, d, 1-v, 0); err != api.ErrJoin {
				t.Errorf("Join(%d, %d, %d, 0) = %d", v, d, 1-v, err)
			}
		}
	}
	holdCells(t, g, want)
}

// joinError is what Join of three cells tells, the first one and the second one being joined to the East.
func joinError(v, d, w, owner int) api.Errno {
	cell := func(v int) bool { return v == 0 || v == 1 || v == 2 }
	switch {
	case !cell(v) || !cell(w) || v == w || d < 0 || d > 3 || owner < -2:
		return api.ErrArg
	case v == 0 && d == api.East, v == 1 && d == api.West:
		return api.ErrJoin
	case w == 0 && d == api.West, w == 1 && d == api.East:
		return api.ErrJoin
	}
	return api.OK
}

func TestP10_3JoinEveryWay(t *testing.T) {
	start := loners(3)
	tie(start, 0, api.East, 1, 5)
	for _, v := range ints {
		for _, d := range ints {
			for _, w := range ints {
				for _, owner := range ints {
					g := &Grid{cells: slices.Clone(start)}
					want := joinError(v, d, w, owner)
					if err := g.Join(v, d, w, owner); err != want {
						t.Fatalf("Join(%d, %d, %d, %d) = %d, not %d", v, d, w, owner, err, want)
					}
					after := start
					if want == api.OK {
						after = slices.Clone(start)
						tie(after, v, d, w, owner)
					}
					if !slices.Equal(g.cells, after) {
						t.Fatalf("Join(%d, %d, %d, %d) left %v", v, d, w, owner, g.cells)
					}
				}
			}
		}
	}
}

func TestP10_3SplitEveryWay(t *testing.T) {
	for _, v := range ints {
		for _, d := range ints {
			g := made(t, square())
			u, err := g.Split(v, d)
			want, after := splitWanted(square(), v, d)
			if err != want || want != api.OK && u != 0 || want == api.OK && u != 4 {
				t.Fatalf("Split(%d, %d) = %d, %d, not %d", v, d, u, err, want)
			}
			holdCells(t, g, after)
		}
	}
}

// splitWanted is what Split tells of cells, and what it leaves.
func splitWanted(cells []api.Cell, v, d int) (api.Errno, []api.Cell) {
	if v < 0 || v >= len(cells) || d < 0 || d > 3 {
		return api.ErrArg, cells
	}
	w, owner := cells[v].Next[d], cells[v].Owner[d]
	if w == -1 {
		return api.ErrJoin, cells
	}
	if len(cells) == api.MaxCells {
		return api.ErrMany, cells
	}
	after := append(slices.Clone(cells), lone)
	tie(after, v, d, len(cells), owner)
	tie(after, len(cells), d, w, owner)
	return api.OK, after
}

// An edge of two cells that are next to one another all round is split alone.
func TestP10_3SplitOneOfMany(t *testing.T) {
	for sides := range 16 {
		cells := loners(2)
		for d := range 4 {
			if sides>>d&1 == 1 {
				tie(cells, 0, d, 1, 10+d)
			}
		}
		for d := range 4 {
			for v := range 2 {
				g := made(t, cells)
				_, err := g.Split(v, d)
				want, after := splitWanted(cells, v, d)
				if err != want {
					t.Fatalf("Split(%d, %d) of %v: %d, not %d", v, d, cells, err, want)
				}
				holdCells(t, g, after)
			}
		}
	}
}

func TestP10_3AtTheLimit(t *testing.T) {
	g, _ := New(api.MaxCells - 2)
	last := api.MaxCells - 3
	if err := g.Join(last, api.East, 0, 8); err != api.OK {
		t.Fatal(err)
	}
	if u, err := g.Split(last, api.East); u != api.MaxCells-2 || err != api.OK {
		t.Fatalf("Split: %d, %d", u, err)
	}
	if u, err := g.Add(); u != api.MaxCells-1 || err != api.OK {
		t.Fatalf("Add: %d, %d", u, err)
	}
	full := g.Cells()
	if u, err := g.Add(); u != 0 || err != api.ErrMany {
		t.Errorf("Add of a full grid: %d, %d", u, err)
	}
	for _, c := range []struct {
		v, d int
		want api.Errno
	}{
		{last, api.East, api.ErrMany},
		{0, api.West, api.ErrMany},
		{last, api.West, api.ErrJoin},
		{api.MaxCells, api.East, api.ErrArg},
		{last, 4, api.ErrArg},
	} {
		if u, err := g.Split(c.v, c.d); u != 0 || err != c.want {
			t.Errorf("Split(%d, %d) of a full grid: %d, %d, not %d", c.v, c.d, u, err, c.want)
		}
	}
	holdCells(t, g, full)
	tie(full, api.MaxCells-1, api.North, 1, 3)
	if err := g.Join(api.MaxCells-1, api.North, 1, 3); err != api.OK {
		t.Errorf("Join in a full grid: %d", err)
	}
	holdCells(t, g, full)
}

func TestP10_3OneEdgeIsSplitUpToTheLimit(t *testing.T) {
	g, _ := New(2)
	g.Join(0, api.South, 1, 4)
	for i := 2; i < api.MaxCells; i++ {
		if u, err := g.Split(0, api.South); u != i || err != api.OK {
			t.Fatalf("Split = %d, %d", u, err)
		}
	}
	want := loners(api.MaxCells)
	tie(want, 0, api.South, api.MaxCells-1, 4)
	for i := api.MaxCells - 1; i > 2; i-- {
		tie(want, i, api.South, i-1, 4)
	}
	tie(want, 2, api.South, 1, 4)
	holdCells(t, g, want)
}

// Two grids have nothing to do with one another.
func TestP10_3GridsApart(t *testing.T) {
	one := made(t, square())
	other := made(t, one.Cells())
	one.Split(0, api.East)
	one.Add()
	holdCells(t, other, square())
	other.Add()
	other.Join(4, api.East, 0, 1)
	want, after := splitWanted(square(), 0, api.East)
	if want != api.OK {
		t.Fatal(want)
	}
	holdCells(t, one, append(after, lone))
}

// dice are numbers that look like chance, the same ones in each run.
type dice uint64

func (s *dice) below(n int) int {
	*s = *s*6364136223846793005 + 1442695040888963407
	return int(uint64(*s)>>33) % n
}

// Whatever is called, in whatever order, a grid's cells may be, and they are what the promises say.
func TestP10_4CellsMayBe(t *testing.T) {
	for seed := range 300 {
		s := dice(seed)
		n := s.below(4)
		g, err := New(n)
		if err != api.OK {
			t.Fatal(err)
		}
		want := loners(n)
		for range 60 {
			want = oneCall(t, &s, g, want)
			holdCells(t, g, want)
			holdCells(t, made(t, want), want)
		}
	}
}

// oneCall calls something of the grid, right or wrong; what its cells are then.
func oneCall(t *testing.T, s *dice, g *Grid, cells []api.Cell) []api.Cell {
	t.Helper()
	v, d, w, owner := s.below(len(cells)+2)-1, s.below(6)-1, s.below(len(cells)+2)-1, s.below(6)-3
	switch s.below(8) {
	case 0:
		if u, err := g.Add(); u != len(cells) || err != api.OK {
			t.Fatalf("Add() = %d, %d", u, err)
		}
		return append(slices.Clone(cells), lone)
	case 1, 2:
		u, err := g.Split(v, d)
		want, after := splitWanted(cells, v, d)
		if err != want || want == api.OK && u != len(cells) || want != api.OK && u != 0 {
			t.Fatalf("Split(%d, %d) of %v = %d, %d, not %d", v, d, cells, u, err, want)
		}
		return after
	}
	err := g.Join(v, d, w, owner)
	want, after := joinWanted(cells, v, d, w, owner)
	if err != want {
		t.Fatalf("Join(%d, %d, %d, %d) of %v = %d, not %d", v, d, w, owner, cells, err, want)
	}
	return after
}

// joinWanted is what Join tells of cells, and what it leaves.
func joinWanted(cells []api.Cell, v, d, w, owner int) (api.Errno, []api.Cell) {
	cell := func(v int) bool { return v >= 0 && v < len(cells) }
	if !cell(v) || !cell(w) || v == w || d < 0 || d > 3 || owner < -2 {
		return api.ErrArg, cells
	}
	if cells[v].Next[d] != -1 || cells[w].Next[opposite[d]] != -1 {
		return api.ErrJoin, cells
	}
	after := slices.Clone(cells)
	tie(after, v, d, w, owner)
	return api.OK, after
}
