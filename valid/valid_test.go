package valid

import (
	"slices"
	"strings"
	"testing"

	"muntin/api"
	"muntin/join"
)

func TestP14_1ByHand(t *testing.T) {
	for _, x := range []struct {
		cells        int
		edges        string
		at           int
		check, outer api.Errno
	}{
		{0, "", 0, api.ErrApart, api.ErrApart},
		{1, "", 0, api.OK, api.ErrArg},
		{2, "", 0, api.ErrApart, api.ErrApart},
		{5, "", 0, api.ErrApart, api.ErrApart},
		{3, "0E1", 0, api.ErrApart, api.ErrApart},
		{3, "1N2", 0, api.ErrApart, api.ErrApart},
		{4, "0E1 3S2", 0, api.ErrApart, api.ErrApart},
		// Without a ring there is the outer face alone.
		{2, "0E1", 0, api.OK, api.OK},
		{2, "0N1", 0, api.OK, api.OK},
		{2, "0W1", 0, api.OK, api.OK},
		{2, "0S1", 0, api.OK, api.OK},
		{3, "0E1 1E2", 0, api.OK, api.OK},
		{3, "2W0 0S1", 0, api.OK, api.OK},
		{5, "0E1 0N2 0W3 0S4", 0, api.OK, api.OK},
		{8, "0E1 1N2 2W3 3S4 4E5 5N6 6W7", 0, api.OK, api.OK},
		// A square, its first cell each of its corners.
		{4, "0E1 1N2 2W3 3S0", 1, api.OK, api.OK},
		{4, "0N1 1W2 2S3 3E0", 1, api.OK, api.OK},
		{4, "0W1 1S2 2E3 3N0", 1, api.OK, api.OK},
		{4, "0S1 1E2 2N3 3W0", 0, api.OK, api.OK},
		// A square with an edge that sticks into it, and one with an edge that sticks out.
		{5, "0E1 1N2 2W3 3S0 1E4", 1, api.OK, api.OK},
		{6, "0E1 1N2 2W3 3W4 4S0 3S5", 1, api.OK, api.OK},
		// Two squares side by side, and four of them, of which the first cell is the middle.
		{6, "0E1 1E2 2N3 3W4 4W5 5S0 1N4", 1, api.OK, api.OK},
		{9, "0E1 0N2 0W3 0S4 5E4 4E6 6N1 1N7 7W2 2W8 8S3 3S5", 4, api.OK, api.OK},
		// Two squares that have a corner of both.
		{7, "0E1 1N2 2W3 3S0 4E0 0S5 5W6 6N4", 1, api.OK, api.OK},
		// Round to the left and to the right by turns.
		{4, "0E1 1N2 2E3 3N0", 0, api.ErrTurn, api.ErrTurn},
		// All faces have 0.
		{2, "0E1 1E0", 0, api.ErrTurn, api.ErrTurn},
		{2, "0E1 0N1", 0, api.ErrTurn, api.ErrTurn},
		{3, "0E1 1E2 2E0", 0, api.ErrTurn, api.ErrTurn},
		{3, "0E1 1N2 2E0", 0, api.ErrTurn, api.ErrTurn},
		// All faces have 4.
		{2, "0E1 0N1 0W1 0S1", 0, api.ErrTurn, api.ErrTurn},
		// A chord that turns by itself: -4, but also 0 and 8; or -4 twice, and 12.
		{10, "0E1 1E2 2N3 3W4 4W5 5S0 1N6 6W7 7S8 8E9 9N4", 0, api.ErrTurn, api.ErrTurn},
		{14, "0E1 1E2 2N3 3W4 4W5 5S0 1N6 6W7 7S8 8E9 9N10 10W11 11S12 12E13 13N4", 0, api.ErrTurn, api.ErrTurn},
		// The first face is an inner one, the second one the outer one, and only then comes what is wrong.
		{12, "0E1 1E2 2E3 3N4 4W5 5W6 6W7 7S0 1N6 2N8 8W9 9S10 10E11 11N5", 0, api.ErrTurn, api.ErrTurn},
		// Not of a plane: just one face has -4, but the other ones 12, or 8.
		{7, "0E3 1E6 1N6 2N3 4E0 5E2 5N4 6E1 6N0", 0, api.ErrTurn, api.ErrTurn},
		{8, "0E6 0N5 1E7 1N7 3E0 3N4 4E2 5E1 6N2 7N1", 0, api.ErrTurn, api.ErrTurn},
		{8, "0E3 1E4 1N0 2E6 2N6 3E5 4E7 4N2 6E2 6N3 7N5", 0, api.ErrTurn, api.ErrTurn},
		{8, "0E1 0N3 1E0 1N0 2E3 3E7 4N7 5E6 5N2 6E4 6N1", 0, api.ErrTurn, api.ErrTurn},
		// What doesn't hang together isn't asked how it turns; whether each part can be drawn makes no difference.
		{8, "0E1 1N2 2E3 3N0 4E5 5N6 6E7 7N4", 0, api.ErrApart, api.ErrApart},
		{5, "1E2 2N3 3E4 4N1", 0, api.ErrApart, api.ErrApart},
		{8, "0E1 1N2 2W3 3S0 4E5 5N6 6W7 7S4", 0, api.ErrApart, api.ErrApart},
		{5, "0E1 1N2 2W3 3S0", 0, api.ErrApart, api.ErrApart},
	} {
		cells := cellsOf(t, x.cells, x.edges)
		held(t, cells)
		if err := Check(cells); err != x.check {
			t.Errorf("%q: %d, not %d", x.edges, err, x.check)
		}
		if at, err := Outer(cells); at != x.at || err != x.outer {
			t.Errorf("%q: outer %d, %d, not %d, %d", x.edges, at, err, x.at, x.outer)
		}
	}
}

// The chapter's examples.
func TestP14_1Examples(t *testing.T) {
	if err := Check(ring(t, "LLLL")); err != api.OK {
		t.Errorf("a square: %d", err)
	}
	if err := Check(ring(t, "LRLR")); err != api.ErrTurn {
		t.Errorf("left and right by turns: %d", err)
	}
}

// A ring can be drawn just if it turns once round, to either side.
func TestP14_1Rings(t *testing.T) {
	for _, x := range []struct {
		turns string
		want  api.Errno
	}{
		{"LLLL", api.OK},
		{"RRRR", api.OK},
		{"LSLLSL", api.OK},
		{"LLLLLR", api.OK},
		{"RLRRRR", api.OK},
		{"LRLLRLLRLLRL", api.OK},
		{"LLLLLLLRRR", api.OK},
		{"LRLR", api.ErrTurn},
		{"LLRR", api.ErrTurn},
		{"SS", api.ErrTurn},
		{"LLLLRRRR", api.ErrTurn},
		{"LLLLLLLL", api.ErrTurn},
		{"RRRRRRRR", api.ErrTurn},
		{"LLLLLLLLLLLL", api.ErrTurn},
	} {
		cells := ring(t, x.turns)
		if err := held(t, cells); err != x.want {
			t.Errorf("%q: %d, not %d", x.turns, err, x.want)
		}
	}
}

func TestP14_1CellsThatMayNotBe(t *testing.T) {
	for name, x := range bads(t) {
		was := slices.Clone(x.cells)
		if err := Check(x.cells); err != x.want {
			t.Errorf("%s: Check = %d, not %d", name, err, x.want)
		}
		if at, err := Outer(x.cells); at != 0 || err != x.want {
			t.Errorf("%s: Outer = %d, %d, not %d", name, at, err, x.want)
		}
		if !slices.Equal(was, x.cells) {
			t.Errorf("%s: the cells were changed", name)
		}
	}
}

func TestP14_1NoCells(t *testing.T) {
	for _, none := range [][]api.Cell{nil, {}, loners(3)[:0]} {
		if err := Check(none); err != api.ErrApart {
			t.Errorf("Check = %d", err)
		}
		if at, err := Outer(none); at != 0 || err != api.ErrApart {
			t.Errorf("Outer = %d, %d", at, err)
		}
	}
}

// What lies behind a list's length has no part in it.
func TestP14_1BehindTheLength(t *testing.T) {
	cells := cellsOf(t, 7, "0E1 1N2 2W3 3S0 5E6")
	if err := held(t, cells[:4]); err != api.OK {
		t.Errorf("a square: %d", err)
	}
	if err := held(t, cells[:5]); err != api.ErrApart {
		t.Errorf("a square and a cell: %d", err)
	}
	if err := held(t, cells[4:5]); err != api.OK {
		t.Errorf("a cell: %d", err)
	}
	if err := Check(cells[:3]); err != api.ErrRange {
		t.Errorf("a part of a square: %d", err)
	}
	if at, err := Outer(cells[:6]); at != 0 || err != api.ErrRange {
		t.Errorf("a part of an edge: %d, %d", at, err)
	}
}

func TestP14_1AtTheLimit(t *testing.T) {
	s := dice(5)
	side := strings.Repeat("S", api.MaxCells/4-1) + "L"
	steps := strings.Repeat("LR", api.MaxCells/4-1) + "L"
	for name, x := range map[string]struct {
		cells []api.Cell
		want  api.Errno
	}{
		"alone":                {loners(api.MaxCells), api.ErrApart},
		"a square ring":        {ring(t, strings.Repeat(side, 4)), api.OK},
		"steps up and down":    {ring(t, steps+"L"+steps+"L"), api.OK},
		"round and round":      {ring(t, strings.Repeat("L", api.MaxCells)), api.ErrTurn},
		"straight on":          {ring(t, strings.Repeat("S", api.MaxCells)), api.ErrTurn},
		"all of a board":       {cast(&s, 64, 64, api.MaxCells, 0).cells, api.OK},
		"a row":                {cast(&s, api.MaxCells, 1, api.MaxCells, 0).cells, api.OK},
		"half of a board":      {cast(&s, 90, 91, api.MaxCells, 0).greatest(t, &s).cells, api.OK},
		"a board with gaps":    {cast(&s, 64, 64, api.MaxCells, 6).cells, api.ErrApart},
		"joined by all chance": {wild(&s, api.MaxCells, 400000), api.ErrTurn},
	} {
		if err := held(t, x.cells); err != x.want {
			t.Errorf("%s: %d, not %d", name, err, x.want)
		}
	}
}

// joined: each cell's next ones to the East and to the North, which tell all others.
type joined [4][2]int

func joinedOf(cells []api.Cell) joined {
	var key joined
	for v, c := range cells {
		key[v] = [2]int{c.Next[api.East], c.Next[api.North]}
	}
	return key
}

// Of few cells, just those can be drawn that are found on a board, and hang together.
func TestP14_1AllSmallCells(t *testing.T) {
	for n, want := range []int{0, 1, 4, 36, 552} {
		found := map[joined]bool{}
		eachBoard(n, func(b *board) { found[joinedOf(b.cells)] = true })
		drawn := 0
		eachGrid(n, func(cells []api.Cell) {
			err := held(t, cells)
			if is := join.Whole(cells) && found[joinedOf(cells)]; is != (err == api.OK) {
				t.Fatalf("%v: %d, on a board: %v", cells, err, is)
			}
			if err == api.OK {
				drawn++
			}
		})
		// Of four: 96 stars, 432 lines with two bends at most, 24 squares.
		if drawn != want {
			t.Errorf("%d lists of %d cells can be drawn, not %d", drawn, n, want)
		}
	}
}

func TestP14_1CellsByChance(t *testing.T) {
	for seed := range 3000 {
		s := dice(seed)
		n := 1 + s.below(12)
		held(t, wild(&s, n, s.below(6*n)))
	}
}

// Whatever is on a board can be drawn, and the face that is round it is the outer one.
func TestP14_2OnAPlane(t *testing.T) {
	for seed := range 2000 {
		s := dice(seed)
		wide, high := 1+s.below(9), 1+s.below(9)
		b := cast(&s, wide, high, 1+s.below(wide*high), s.below(8))
		want := api.OK
		if !join.Whole(b.cells) {
			want = api.ErrApart
		}
		if err := held(t, b.cells); err != want {
			t.Fatalf("%v at %v: %d, not %d", b.cells, b.spots, err, want)
		}
		onAPlane(t, b.greatest(t, &s))
	}
}

func TestP14_2OnAWidePlane(t *testing.T) {
	for seed := range 12 {
		s := dice(seed)
		onAPlane(t, cast(&s, 70, 70, 1000+s.below(3000), s.below(5)).greatest(t, &s))
	}
}

// onAPlane holds cells of a board that hang together to P14.2.
func onAPlane(t *testing.T, b *board) {
	t.Helper()
	if err := held(t, b.cells); err != api.OK {
		t.Fatalf("%v at %v: %d", b.cells, b.spots, err)
	}
	at, err := Outer(b.cells)
	if len(b.cells) == 1 {
		if at != 0 || err != api.ErrArg {
			t.Fatalf("one cell: %d, %d", at, err)
		}
		return
	}
	if want := b.around(t); at != want || err != api.OK {
		t.Fatalf("%v at %v: outer %d, %d, not %d", b.cells, b.spots, at, err, want)
	}
}

// Cells, edges and faces of what can be drawn fit Euler's formula.
func TestP14_2Euler(t *testing.T) {
	drawn := 0
	for n := 1; n < 5; n++ {
		eachGrid(n, func(cells []api.Cell) {
			if Check(cells) != api.OK || n == 1 {
				return
			}
			drawn++
			faces, ways := plainFaces(cells), 0
			for _, f := range faces {
				ways += len(f)
			}
			if n-ways/2+len(faces) != 2 {
				t.Fatalf("%v: %d faces, %d ways", cells, len(faces), ways)
			}
		})
	}
	if drawn != 4+36+552 {
		t.Errorf("%d can be drawn", drawn)
	}
}
