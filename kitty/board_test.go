package kitty

import (
	"slices"
	"testing"

	"muntin/api"
	"muntin/join"
)

// What stands at a spot of a board, if it isn't a cell.
const (
	free  = -1
	taken = -2
)

// board: spots of a plane, on which cells stand, and are joined by straight edges that don't cross.
type board struct {
	wide  int
	at    []int
	spots []api.Point
	cells []api.Cell
}

// boardOf so many columns and rows; the cells stand at these of its spots, which are counted row by row.
func boardOf(wide, high int, places []int) *board {
	b := &board{wide: wide, at: slices.Repeat([]int{free}, wide*high), cells: loners(len(places))}
	for v, p := range places {
		b.at[p] = v
		b.spots = append(b.spots, api.Point{X: p % wide, Y: p / wide})
	}
	return b
}

// step from a spot in a direction, and whether that is on the board.
func (b *board) step(p api.Point, d int) (api.Point, bool) {
	p.X += [4]int{1, 0, -1, 0}[d]
	p.Y += [4]int{0, 1, 0, -1}[d]
	return p, p.X >= 0 && p.X < b.wide && p.Y >= 0 && p.Y < len(b.at)/b.wide
}

// sight: which cell is seen from a cell over free spots alone, and these.
func (b *board) sight(v, d int) (int, []int, bool) {
	var over []int
	for p, ok := b.step(b.spots[v], d); ok; p, ok = b.step(p, d) {
		i := p.Y*b.wide + p.X
		if b.at[i] != free {
			return b.at[i], over, b.at[i] != taken && b.cells[v].Next[d] == -1
		}
		over = append(over, i)
	}
	return 0, nil, false
}

// link a cell with the one that it sees in a direction, if it sees one.
func (b *board) link(v, d int) bool {
	w, over, ok := b.sight(v, d)
	if !ok {
		return false
	}
	for _, i := range over {
		b.at[i] = taken
	}
	tie(b.cells, v, d, w, len(over))
	return true
}

// part of a board's cells, counted in another order, at their spots and with their edges.
func (b *board) part(s *dice, of []int) *board {
	order, place := s.mixed(len(of)), map[int]int{}
	one := &board{wide: b.wide, spots: make([]api.Point, len(of)), cells: loners(len(of))}
	for i, v := range of {
		place[v] = order[i]
	}
	for _, v := range of {
		one.spots[place[v]] = b.spots[v]
		for d, w := range b.cells[v].Next {
			if w != -1 {
				tie(one.cells, place[v], d, place[w], b.cells[v].Owner[d])
			}
		}
	}
	return one
}

// greatest part of a board.
func (b *board) greatest(t *testing.T, s *dice) *board {
	t.Helper()
	parts, err := join.Parts(b.cells)
	if err != api.OK {
		t.Fatalf("%v: %d", b.cells, err)
	}
	return b.part(s, slices.MaxFunc(parts, func(a, b []int) int { return len(a) - len(b) }))
}

// cast cells on a board: so many of its spots have one; of the edges that don't cross an earlier one so many of ten are left out, by chance.
func cast(s *dice, wide, high, n, out int) *board {
	b := boardOf(wide, high, s.mixed(wide * high)[:n])
	for _, side := range s.mixed(4 * n) {
		if s.below(10) >= out {
			b.link(side/4, side%4)
		}
	}
	return b
}
