package kitty

import (
	"slices"
	"strings"
	"testing"

	"muntin/api"
	"muntin/face"
	"muntin/valid"
)

// plus is the chapter's example: a plus sign's inside.
var plus = []int{-1, 1, 1, -1, 1, 1, -1, 1, 1, -1, 1, 1}

func TestP15_1CornersByHand(t *testing.T) {
	for _, x := range []struct {
		turns []int
		want  []Corner
	}{
		{nil, nil},
		{[]int{}, nil},
		{[]int{0}, nil},
		{[]int{1, 1, 0, 1, 1}, nil},
		{[]int{-1}, []Corner{{0, 0}}},
		{[]int{-2}, []Corner{{0, 0}, {0, 1}}},
		{[]int{-2, -2}, []Corner{{0, 0}, {0, 1}, {1, 0}, {1, 1}}},
		{[]int{0, -1, 1, -2, -1}, []Corner{{1, 0}, {3, 0}, {3, 1}, {4, 0}}},
		{plus, []Corner{{0, 0}, {3, 0}, {6, 0}, {9, 0}}},
		// Other turns are no corners, but leave the others what they are.
		{[]int{2, 3, -3, -4, 5}, nil},
		{[]int{-3, -1, 2, -2, -4}, []Corner{{1, 0}, {3, 0}, {3, 1}}},
	} {
		if got := Corners(x.turns); !slices.Equal(got, x.want) {
			t.Errorf("Corners(%v) = %v, not %v", x.turns, got, x.want)
		}
	}
	for _, i := range ints {
		if got, want := Corners([]int{-1, i, -1}), plainCorners([]int{-1, i, -1}); !slices.Equal(got, want) {
			t.Errorf("Corners with %d: %v, not %v", i, got, want)
		}
	}
}

func TestP15_1RotByHand(t *testing.T) {
	spiral := []int{-2, 1, 0, 1, -2, -1, -1}
	for _, x := range []struct {
		turns []int
		a, b  Corner
		want  int
	}{
		{plus, Corner{0, 0}, Corner{3, 0}, 1},
		{plus, Corner{0, 0}, Corner{6, 0}, 2},
		{plus, Corner{0, 0}, Corner{9, 0}, 3},
		{plus, Corner{3, 0}, Corner{0, 0}, 3},
		{plus, Corner{9, 0}, Corner{0, 0}, 1},
		{plus, Corner{9, 0}, Corner{6, 0}, 3},
		// To itself one doesn't turn at all, whatever all turns are together.
		{plus, Corner{3, 0}, Corner{3, 0}, 0},
		{[]int{-1}, Corner{0, 0}, Corner{0, 0}, 0},
		{[]int{-1, 1, 1, 1}, Corner{0, 0}, Corner{0, 0}, 0},
		{[]int{-2, -2}, Corner{1, 1}, Corner{1, 1}, 0},
		// The two halves of a turn back.
		{[]int{-2, -2}, Corner{0, 0}, Corner{0, 1}, -1},
		{[]int{-2, -2}, Corner{0, 1}, Corner{0, 0}, -3},
		{[]int{-2, -2}, Corner{0, 1}, Corner{1, 0}, -1},
		{[]int{-2, -2}, Corner{0, 0}, Corner{1, 1}, -3},
		{[]int{-2, -2}, Corner{1, 1}, Corner{0, 0}, -1},
		{[]int{-2, -2}, Corner{1, 0}, Corner{0, 1}, -3},
		{[]int{-2}, Corner{0, 0}, Corner{0, 1}, -1},
		{[]int{-2}, Corner{0, 1}, Corner{0, 0}, -1},
		{spiral, Corner{0, 0}, Corner{4, 0}, 0},
		{spiral, Corner{0, 1}, Corner{4, 0}, 1},
		{spiral, Corner{0, 1}, Corner{4, 1}, 0},
		{spiral, Corner{4, 1}, Corner{0, 0}, -3},
		{spiral, Corner{4, 0}, Corner{0, 1}, -5},
		{spiral, Corner{6, 0}, Corner{5, 0}, -3},
		{spiral, Corner{5, 0}, Corner{6, 0}, -1},
	} {
		if got, err := Rot(x.turns, x.a, x.b); got != x.want || err != api.OK {
			t.Errorf("Rot(%v, %v, %v) = %d, %d, not %d", x.turns, x.a, x.b, got, err, x.want)
		}
	}
}

// refused holds Rot to ErrArg.
func refused(t *testing.T, turns []int, a, b Corner) {
	t.Helper()
	if got, err := Rot(turns, a, b); got != 0 || err != api.ErrArg {
		t.Errorf("Rot(%v, %v, %v) = %d, %d", turns, a, b, got, err)
	}
}

func TestP15_1RotOfNoCorners(t *testing.T) {
	turns := []int{-1, 0, -2, 1, -1}
	corners := plainCorners(turns)
	for _, at := range ints {
		for _, part := range ints {
			c := Corner{at, part}
			if slices.Contains(corners, c) {
				continue
			}
			refused(t, turns, c, Corner{2, 1})
			refused(t, turns, Corner{2, 1}, c)
			refused(t, turns, c, c)
			refused(t, nil, c, c)
		}
	}
	refused(t, nil, Corner{}, Corner{})
	refused(t, []int{0}, Corner{}, Corner{})
	refused(t, []int{1}, Corner{}, Corner{})
}

// One turn that may not be is too much, wherever it is, and whatever it is.
func TestP15_1OneTurnThatMayNotBe(t *testing.T) {
	turns := []int{1, 1, 1, -1, 1, 1, 1, -1}
	if a, b, ok := Pair(turns); a != (Corner{3, 0}) || b != (Corner{7, 0}) || !ok {
		t.Fatalf("Pair(%v) = %v, %v, %v", turns, a, b, ok)
	}
	for at := range len(turns) + 1 {
		for _, i := range ints {
			if slices.Contains([]int{1, 0, -1, -2}, i) {
				continue
			}
			spoilt := slices.Insert(slices.Clone(turns), at, i)
			if a, b, ok := Pair(spoilt); a != (Corner{}) || b != (Corner{}) || ok {
				t.Errorf("Pair(%v) = %v, %v, %v", spoilt, a, b, ok)
			}
			for _, c := range Corners(spoilt) {
				refused(t, spoilt, c, c)
			}
			refused(t, spoilt, Corner{3, 0}, Corner{7, 0})
		}
	}
}

func TestP15_1PairByHand(t *testing.T) {
	for _, x := range []struct {
		turns []int
		a, b  Corner
		ok    bool
	}{
		{plus, Corner{0, 0}, Corner{6, 0}, true},
		{nil, Corner{}, Corner{}, false},
		{[]int{}, Corner{}, Corner{}, false},
		{[]int{1, 1, 1, 1}, Corner{}, Corner{}, false},
		{[]int{0, -1, 0}, Corner{}, Corner{}, false},
		{[]int{-2, -2}, Corner{}, Corner{}, false},
		{[]int{-2, 1, -2, 1, -2, 1, -2, 1}, Corner{}, Corner{}, false},
		// An L's inside and outside, and a Z's.
		{[]int{1, 1, -1, 1, 1, 1}, Corner{}, Corner{}, false},
		{[]int{-1, -1, 1, -1, -1, -1}, Corner{}, Corner{}, false},
		{[]int{1, 1, 1, -1, 1, 1, 1, -1}, Corner{3, 0}, Corner{7, 0}, true},
		{[]int{-1, -1, -1, 1, -1, -1, -1, 1}, Corner{}, Corner{}, false},
		// A rotation of 1 or of 3 isn't enough, nor one of -2.
		{[]int{-1, 1, 1, -1, 1, 1, 1, 1}, Corner{}, Corner{}, false},
		{[]int{-1, 1, 1, 1, 1, -1, 1, 1}, Corner{}, Corner{}, false},
		{[]int{-1, -1, -1, -1, 1}, Corner{}, Corner{}, false},
		// The second half of a turn back sees what the first one doesn't, and is seen.
		{[]int{-2, 1, 1, 1, -1, -1, -1, -1, -1, -1}, Corner{0, 1}, Corner{4, 0}, true},
		{[]int{-2, 1, 1, 1, 1, -1, -1, -1, -1, -1}, Corner{0, 0}, Corner{5, 0}, true},
		{[]int{-1, 1, 1, 1, 1, -2, -2, -2, -2, -1}, Corner{0, 0}, Corner{5, 1}, true},
		{[]int{1, -2, 0, 0, 0, 1, 1}, Corner{1, 1}, Corner{1, 0}, true},
		// Going round, the second one is ahead of the first one.
		{[]int{1, -1, -1, 1, 1}, Corner{2, 0}, Corner{1, 0}, true},
		// Of two that are seen, the one that is first in the list, though going round the other one comes first.
		{[]int{-1, -1, -1, 1, 1, 1, -1, 1}, Corner{2, 0}, Corner{0, 0}, true},
		// Of two that are seen, both behind it, the first one.
		{[]int{-1, 1, 1, 1, -1, 1, -1, -1, -1, -1, -1, -1, -1}, Corner{0, 0}, Corner{4, 0}, true},
		// Once round is 2, but that is no way to itself.
		{[]int{-1, 1, 1, 1}, Corner{}, Corner{}, false},
		{[]int{1, 1, 0, -1, 1}, Corner{}, Corner{}, false},
		// The first corner sees nothing, the next one does.
		{[]int{-1, -1, 1, 1, 1, -1, -1, -1, -1}, Corner{1, 0}, Corner{5, 0}, true},
	} {
		if a, b, ok := Pair(x.turns); a != x.a || b != x.b || ok != x.ok {
			t.Errorf("Pair(%v) = %v, %v, %v, not %v, %v, %v", x.turns, a, b, ok, x.a, x.b, x.ok)
		}
	}
}

// heldTurns holds the three calls to the chapter's words, and the turns to what they were.
func heldTurns(t *testing.T, turns []int) {
	t.Helper()
	was := slices.Clone(turns)
	corners := plainCorners(turns)
	if got := Corners(turns); !slices.Equal(got, corners) {
		t.Fatalf("Corners(%v) = %v, not %v", turns, got, corners)
	}
	may := turnable(turns)
	for _, a := range corners {
		for _, b := range corners {
			want, wantErr := 0, api.ErrArg
			if may {
				want, wantErr = plainRot(turns, a, b), api.OK
			}
			if got, err := Rot(turns, a, b); got != want || err != wantErr {
				t.Fatalf("Rot(%v, %v, %v) = %d, %d, not %d, %d", turns, a, b, got, err, want, wantErr)
			}
		}
	}
	wantA, wantB, want := plainPair(turns)
	if a, b, ok := Pair(turns); a != wantA || b != wantB || ok != want {
		t.Fatalf("Pair(%v) = %v, %v, %v, not %v, %v, %v", turns, a, b, ok, wantA, wantB, want)
	}
	if !slices.Equal(was, turns) {
		t.Fatalf("%v became %v", was, turns)
	}
}

func TestP15_1AllShortTurns(t *testing.T) {
	for n := range 8 {
		eachTurns(n, []int{-2, -1, 0, 1}, func(turns []int) { heldTurns(t, turns) })
	}
	for n := range 6 {
		eachTurns(n, []int{-3, -2, -1, 0, 1, 2}, func(turns []int) { heldTurns(t, turns) })
	}
}

// turnsOf chance: so many, of which so many of twelve are to the left.
func turnsOf(s *dice, n, lefts int) []int {
	turns := make([]int, n)
	for i := range turns {
		turns[i] = s.below(3) - 2
		if s.below(12) < lefts {
			turns[i] = 1
		}
	}
	return turns
}

func TestP15_1TurnsByChance(t *testing.T) {
	for seed := range 1500 {
		s := dice(seed)
		heldTurns(t, turnsOf(&s, 1+s.below(24), s.below(12)))
	}
}

// What lies behind a list's length has no part in it, and isn't handed out.
func TestP15_1BehindTheLength(t *testing.T) {
	turns := []int{1, 1, 1, -1, 1, 1, 1, -1, 9}
	for n := range len(turns) + 1 {
		heldTurns(t, turns[:n])
	}
	if a, b, ok := Pair(turns[:8]); a != (Corner{3, 0}) || b != (Corner{7, 0}) || !ok {
		t.Errorf("%v, %v, %v", a, b, ok)
	}
	refused(t, turns[:7], Corner{3, 0}, Corner{7, 0})
	refused(t, turns, Corner{3, 0}, Corner{7, 0})
}

// What is answered is no memory of another answer.
func TestP15_1NewMemory(t *testing.T) {
	turns := []int{-1, -2, 0}
	one, other := Corners(turns), Corners(turns)
	for i := range one {
		one[i] = Corner{7, 7}
	}
	one = append(one, Corner{8, 8})
	if want := plainCorners(turns); !slices.Equal(other, want) || !slices.Equal(Corners(turns), want) {
		t.Errorf("%v became %v", want, other)
	}
}

// However many there are, a pair is soon found, or that there is none.
func TestP15_1ManyTurns(t *testing.T) {
	const n = 1000000
	none := slices.Repeat([]int{-1}, n)
	if a, b, ok := Pair(none); a != (Corner{}) || b != (Corner{}) || ok {
		t.Errorf("all to the right: %v, %v, %v", a, b, ok)
	}
	if got, err := Rot(none, Corner{n - 1, 0}, Corner{n - 2, 0}); got != 1-n || err != api.OK {
		t.Errorf("nearly once round: %d, %d", got, err)
	}
	if got := len(Corners(slices.Repeat([]int{-2}, n))); got != 2*n {
		t.Errorf("all back: %d corners", got)
	}
	// Only at its end three turns to the left let one corner see another one.
	late := slices.Concat(none, []int{1, 1, 1, -1})
	if a, b, ok := Pair(late); a != (Corner{n - 1, 0}) || b != (Corner{n + 3, 0}) || !ok {
		t.Errorf("at the end: %v, %v, %v", a, b, ok)
	}
	steps := slices.Repeat([]int{1, -1}, n)
	if a, b, ok := Pair(steps); ok {
		t.Errorf("left and right: %v, %v", a, b)
	}
}

func TestP15_2ByHand(t *testing.T) {
	for _, x := range []struct {
		cells int
		edges string
		want  bool
		err   api.Errno
	}{
		{0, "", false, api.ErrApart},
		{1, "", true, api.OK},
		{2, "", false, api.ErrApart},
		{2, "0E1", true, api.OK},
		{4, "0E1 1N2 2E3", true, api.OK},
		{4, "0E1 1N2 2W3", true, api.OK},
		{5, "0E1 0N2 0W3 0S4", true, api.OK},
		// Round a square, but for its last corner; to the left and to the right.
		{5, "0E1 1N2 2W3 3S4", false, api.OK},
		{5, "0E1 1S2 2W3 3N4", false, api.OK},
		{4, "0E1 1N2 2W3 3S0", true, api.OK},
		// A square with an edge into it, and with an edge out of it; with two into it, from one side or from two.
		{6, "0E1 1E2 2N3 3W4 4S0 1N5", true, api.OK},
		{6, "0E1 1E2 2N3 3W4 4S0 1S5", true, api.OK},
		{8, "0E1 1E2 2E3 3N4 4W5 5S0 1N6 2N7", true, api.OK},
		{8, "0E1 1E2 2N3 3N4 4W5 5S0 1N6 3W7", false, api.OK},
		{8, "0E1 1E2 2N3 3W4 4W5 5S0 1N6 4S7", false, api.OK},
		// Two rooms side by side, of which just one isn't regular.
		{11, "0E1 1E2 2N3 3N4 4N5 5W6 6W7 7S0 1N8 8N6 3W9 8E10", false, api.OK},
		{11, "0E1 1E2 2N3 3N4 4N5 5W6 6W7 7S0 1N8 8N6 3W9 8W10", true, api.OK},
		// What turns wrongly isn't asked, whether a face has a pair or not.
		{4, "0E1 1N2 2E3 3N0", false, api.ErrTurn},
		{2, "0E1 1E0", false, api.ErrTurn},
		// Apart, though each part is regular.
		{5, "0E1 1N2 2W3 3S0", false, api.ErrApart},
	} {
		if got, err := Regular(cellsOf(t, x.cells, x.edges)); got != x.want || err != x.err {
			t.Errorf("%q: %v, %d, not %v, %d", x.edges, got, err, x.want, x.err)
		}
	}
}

func TestP15_2Rings(t *testing.T) {
	for turns, want := range map[string]bool{
		"LLLL":         true,
		"RRRR":         true,
		"SLLSLLSS":     true,
		"LLRLLL":       true,  // an L
		"RLLRLLLL":     true,  // a T
		"RRLLLLLL":     true,  // a U
		"LLLRLLLR":     false, // a Z
		"RRRLRRRL":     false,
		"RLLRLLRLLRLL": false, // a plus sign
		"LRRRLLLLLL":   false, // a hook, of which just the outer face isn't regular
		"RLLLRRRRRR":   false,
		"LRLRLRLLLL":   true, // steps
		"LLLLLLLRRR":   false,
		"LLLLLLRR":     true,
		"LLLRLRLLRL":   true,
	} {
		if got, err := Regular(ring(t, turns)); got != want || err != api.OK {
			t.Errorf("%s: %v, %d, not %v", turns, got, err, want)
		}
	}
}

func TestP15_2CellsThatMayNotBe(t *testing.T) {
	for name, x := range bads(t) {
		was := slices.Clone(x.cells)
		if got, err := Regular(x.cells); got || err != x.want {
			t.Errorf("%s: %v, %d, not %d", name, got, err, x.want)
		}
		if !slices.Equal(was, x.cells) {
			t.Errorf("%s: the cells were changed", name)
		}
	}
}

func TestP15_2NoCells(t *testing.T) {
	for _, none := range [][]api.Cell{nil, {}, loners(3)[:0]} {
		if got, err := Regular(none); got || err != api.ErrApart {
			t.Errorf("%v, %d", got, err)
		}
	}
}

// held holds Regular to the chapter's words, and the cells to what they were; tells what it answers.
func held(t *testing.T, cells []api.Cell) (bool, api.Errno) {
	t.Helper()
	was := slices.Clone(cells)
	err := valid.Check(cells)
	want := err == api.OK && plainRegular(cells)
	got, e := Regular(cells)
	if got != want || e != err {
		t.Fatalf("Regular(%v) = %v, %d, not %v, %d", cells, got, e, want, err)
	}
	if !slices.Equal(was, cells) {
		t.Fatalf("%v became %v", was, cells)
	}
	return got, e
}

// What lies behind a list's length has no part in it.
func TestP15_2BehindTheLength(t *testing.T) {
	cells := cellsOf(t, 11, "0E1 1N2 2W3 3S0 4E5 5N6 6W7 7S8")
	for _, x := range []struct {
		from, to int
		want     bool
		err      api.Errno
	}{
		{0, 4, true, api.OK},
		{0, 3, false, api.ErrRange},
		{0, 9, false, api.ErrApart},
		{0, 8, false, api.ErrRange},
		{9, 10, true, api.OK},
	} {
		if got, err := Regular(cells[x.from:x.to]); got != x.want || err != x.err {
			t.Errorf("%d to %d: %v, %d, not %v, %d", x.from, x.to, got, err, x.want, x.err)
		}
	}
}

func TestP15_2AllSmallCells(t *testing.T) {
	for n, want := range []int{0, 1, 4, 36, 552} {
		regular := 0
		eachGrid(n, func(cells []api.Cell) {
			if is, _ := held(t, cells); is {
				regular++
			}
		})
		// Up to four cells, whatever can be drawn is regular.
		if regular != want {
			t.Errorf("%d lists of %d cells are regular, not %d", regular, n, want)
		}
	}
}

// Of five cells that can be drawn, just those aren't regular that lead round all corners of a square but the last one.
func TestP15_2AllOfFive(t *testing.T) {
	drawn, odd := 0, 0
	eachGrid(5, func(cells []api.Cell) {
		if valid.Check(cells) != api.OK {
			return
		}
		drawn++
		if is, _ := held(t, cells); !is {
			odd++
		}
	})
	// Each order of the cells, from its first one in each direction; to the right they are those to the left from their end on.
	if odd != 5*4*3*2*4 {
		t.Errorf("%d of %d aren't regular", odd, drawn)
	}
}

func TestP15_2CellsByChance(t *testing.T) {
	for seed := range 2000 {
		s := dice(seed)
		n := 1 + s.below(12)
		held(t, wild(&s, n, s.below(6*n)))
	}
}

func TestP15_2OnAPlane(t *testing.T) {
	found := map[bool]int{}
	for seed := range 2000 {
		s := dice(seed)
		wide, high := 1+s.below(7), 1+s.below(7)
		b := cast(&s, wide, high, 1+s.below(wide*high), s.below(8))
		got, err := held(t, b.greatest(t, &s).cells)
		if err != api.OK {
			t.Fatalf("%v: %d", b.cells, err)
		}
		found[got]++
	}
	if found[true] < 200 || found[false] < 200 {
		t.Errorf("too few are regular, or too few aren't: %v", found)
	}
}

// Where each spot of a board has a cell, next to all others round it, all that is to the left is a square.
func TestP15_2FullBoards(t *testing.T) {
	for seed := range 40 {
		s := dice(seed)
		wide, high := 1+s.below(9), 1+s.below(9)
		if got, err := held(t, cast(&s, wide, high, wide*high, 0).cells); !got || err != api.OK {
			t.Errorf("%d times %d: %v, %d", wide, high, got, err)
		}
	}
}

func TestP15_2AtTheLimit(t *testing.T) {
	s := dice(3)
	side := strings.Repeat("S", api.MaxCells/4-1) + "L"
	steps := strings.Repeat("LR", api.MaxCells/4-1) + "L"
	teeth := strings.Repeat("LLRR", api.MaxCells/4-1) + "LLLL"
	for name, x := range map[string]struct {
		cells []api.Cell
		want  bool
		err   api.Errno
	}{
		"alone":              {loners(api.MaxCells), false, api.ErrApart},
		"a square ring":      {ring(t, strings.Repeat(side, 4)), true, api.OK},
		"steps up and down":  {ring(t, steps+"L"+steps+"L"), false, api.OK},
		"steps to one side":  {ring(t, strings.Repeat("LR", api.MaxCells/2-2)+"LLLL"), true, api.OK},
		"teeth":              {ring(t, teeth), true, api.OK},
		"round and round":    {ring(t, strings.Repeat("L", api.MaxCells)), false, api.ErrTurn},
		"all of a board":     {cast(&s, 64, 64, api.MaxCells, 0).cells, true, api.OK},
		"a row":              {cast(&s, api.MaxCells, 1, api.MaxCells, 0).cells, true, api.OK},
		"a board with gaps":  {cast(&s, 64, 64, api.MaxCells, 6).cells, false, api.ErrApart},
		"one more than many": {loners(api.MaxCells + 1), false, api.ErrMany},
	} {
		if got, err := Regular(x.cells); got != x.want || err != x.err {
			t.Errorf("%s: %v, %d, not %v, %d", name, got, err, x.want, x.err)
		}
	}
}

// There and back again, one has turned by all turns together.
func thereAndBack(t *testing.T, turns []int) {
	t.Helper()
	sum := 0
	for _, turn := range turns {
		sum += turn
	}
	for _, a := range Corners(turns) {
		for _, b := range Corners(turns) {
			there, _ := Rot(turns, a, b)
			again, err := Rot(turns, b, a)
			if a != b && (there+again != sum || err != api.OK) {
				t.Fatalf("%v: from %v to %v %d, back %d, %d", turns, a, b, there, again, err)
			}
		}
	}
}

func TestP15_3ThereAndBack(t *testing.T) {
	thereAndBack(t, plus)
	for n := range 7 {
		eachTurns(n, []int{-2, -1, 0, 1}, func(turns []int) { thereAndBack(t, turns) })
	}
	for seed := range 300 {
		s := dice(seed)
		thereAndBack(t, turnsOf(&s, 1+s.below(60), s.below(12)))
	}
}

// Of cells that can be drawn that is 4 round an inner face, where so each of two corners that look at one another sees the other one; and -4 round the outer one, where just one does.
func TestP15_3OfCells(t *testing.T) {
	pairs := 0
	for seed := range 300 {
		s := dice(seed)
		b := cast(&s, 9, 9, 60, s.below(8)).greatest(t, &s)
		at, err := valid.Outer(b.cells)
		if err != api.OK {
			continue
		}
		faces, _ := face.Faces(b.cells)
		for i, f := range faces {
			turns := face.Turns(b.cells, f)
			thereAndBack(t, turns)
			one, other, ok := Pair(turns)
			if !ok {
				continue
			}
			pairs++
			want := 2
			if i == at {
				want = -6
			}
			if got, err := Rot(turns, other, one); got != want || err != api.OK {
				t.Fatalf("%v: from %v to %v %d, %d", turns, other, one, got, err)
			}
		}
	}
	if pairs < 50 {
		t.Errorf("just %d pairs", pairs)
	}
}
