package face

import (
	"math"
	"slices"
	"testing"

	"muntin/api"
)

// holdNext holds Next of cells at a dart, or at none, to the plain rule.
func holdNext(t *testing.T, cells []api.Cell, d Dart) {
	t.Helper()
	want, turned, is := plainNext(cells, d)
	if got, turn, ok := Next(cells, d); got != want || turn != turned || ok != is {
		t.Fatalf("Next(%v, %v) = %v, %d, %v, not %v, %d, %v", cells, d, got, turn, ok, want, turned, is)
	}
}

// One cell comes from the West to another one; of that one's sides some are open.
func TestP12_1EveryTurn(t *testing.T) {
	for d := range 4 {
		for open := range 8 {
			cells := loners(5)
			tie(cells, 0, d, 1, 9)
			for i, e := range [3]int{toLeft[d], d, toRight[d]} {
				if open>>i&1 == 1 {
					tie(cells, 1, e, 2+i, i)
				}
			}
			want, turned := Dart{1, opposite[d]}, -2
			switch {
			case open&1 != 0:
				want, turned = Dart{1, toLeft[d]}, 1
			case open&2 != 0:
				want, turned = Dart{1, d}, 0
			case open&4 != 0:
				want, turned = Dart{1, toRight[d]}, -1
			}
			if got, turn, ok := Next(cells, Dart{0, d}); got != want || turn != turned || !ok {
				t.Errorf("direction %d, open %d: %v, %d, %v, not %v, %d", d, open, got, turn, ok, want, turned)
			}
		}
	}
}

func TestP12_1NoDart(t *testing.T) {
	cells := cellsOf(t, 4, "0E1 1N2")
	for _, v := range ints {
		for _, dir := range ints {
			d := Dart{v, dir}
			holdNext(t, cells, d)
			is := slices.Contains(dartsOf("0E 1W 1N 2S"), d)
			if got, turn, ok := Next(cells, d); ok != is || !is && (got != Dart{} || turn != 0) {
				t.Errorf("Next at %v = %v, %d, %v", d, got, turn, ok)
			}
			for _, none := range [][]api.Cell{nil, {}, loners(1), loners(8)} {
				if got, turn, ok := Next(none, d); got != (Dart{}) || turn != 0 || ok {
					t.Errorf("Next of %v at %v = %v, %d, %v", none, d, got, turn, ok)
				}
			}
		}
	}
}

func TestP12_1CellsThatMayNotBe(t *testing.T) {
	for name, x := range bads() {
		for _, v := range []int{0, 1, 2, 3, -1, len(x.cells) - 1, len(x.cells)} {
			for dir := -1; dir <= 4; dir++ {
				if got, turn, ok := Next(x.cells, Dart{v, dir}); got != (Dart{}) || turn != 0 || ok {
					t.Errorf("%s: Next at %d, %d = %v, %d, %v", name, v, dir, got, turn, ok)
				}
			}
		}
	}
}

func TestP12_1AtTheLimit(t *testing.T) {
	cells := loners(api.MaxCells)
	last := api.MaxCells - 1
	tie(cells, last, api.South, 0, math.MaxInt)
	if got, turn, ok := Next(cells, Dart{last, api.South}); got != (Dart{0, api.North}) || turn != -2 || !ok {
		t.Errorf("%v, %d, %v", got, turn, ok)
	}
	if got, turn, ok := Next(cells, Dart{0, api.North}); got != (Dart{last, api.South}) || turn != -2 || !ok {
		t.Errorf("%v, %d, %v", got, turn, ok)
	}
}

func TestP12_1AllSmallCells(t *testing.T) {
	for n := range 5 {
		eachGrid(n, func(cells []api.Cell) {
			for v := range n {
				for d := range 4 {
					holdNext(t, cells, Dart{v, d})
				}
			}
		})
	}
}

// holdFaces holds Faces and Turns of cells that may be to the chapter's words.
func holdFaces(t *testing.T, cells []api.Cell) [][]Dart {
	t.Helper()
	was := slices.Clone(cells)
	faces, err := Faces(cells)
	if err != api.OK {
		t.Fatalf("Faces(%v): %d", cells, err)
	}
	var all []Dart
	for i, f := range faces {
		if i > 0 && !less(faces[i-1][0], f[0]) {
			t.Fatalf("Faces(%v) = %v: not in order at %d", cells, faces, i)
		}
		holdFace(t, cells, f)
		all = append(all, f...)
	}
	if !slices.Equal(was, cells) {
		t.Fatalf("%v became %v", was, cells)
	}
	slices.SortFunc(all, func(a, b Dart) int {
		if less(a, b) {
			return -1
		}
		return 1
	})
	if want := dartsIn(cells); !slices.Equal(all, want) {
		t.Fatalf("Faces(%v) = %v: the darts %v, not %v", cells, faces, all, want)
	}
	return faces
}

// holdFace holds one face of cells to the chapter's words, and its turns.
func holdFace(t *testing.T, cells []api.Cell, f []Dart) {
	t.Helper()
	turns := Turns(cells, f)
	if len(f) == 0 || len(turns) != len(f) {
		t.Fatalf("%v: face %v, turns %v", cells, f, turns)
	}
	for i, d := range f {
		next, turn, ok := plainBehind(cells, d)
		if !ok || next != f[(i+1)%len(f)] || turn != turns[i] {
			t.Fatalf("%v: face %v, turns %v: behind %v comes %v, %d, %v", cells, f, turns, d, next, turn, ok)
		}
		if less(d, f[0]) {
			t.Fatalf("%v: face %v begins with %v", cells, f, f[0])
		}
	}
}

func TestP12_2ByHand(t *testing.T) {
	for _, x := range []struct {
		cells int
		edges string
		faces []string
		turns [][]int
	}{
		{0, "", nil, nil},
		{1, "", nil, nil},
		{5, "", nil, nil},
		{2, "0E1", []string{"0E 1W"}, [][]int{{-2, -2}}},
		{2, "1E0", []string{"0W 1E"}, [][]int{{-2, -2}}},
		{2, "0N1", []string{"0N 1S"}, [][]int{{-2, -2}}},
		{2, "0S1", []string{"0S 1N"}, [][]int{{-2, -2}}},
		{4, "2E1", []string{"1W 2E"}, [][]int{{-2, -2}}},
		{3, "0E1 1E2", []string{"0E 1E 2W 1W"}, [][]int{{0, -2, 0, -2}}},
		{3, "0E1 1N2", []string{"0E 1N 2S 1W"}, [][]int{{1, -2, -1, -2}}},
		{3, "0E1 1S2", []string{"0E 1S 2N 1W"}, [][]int{{-1, -2, 1, -2}}},
		{4, "0E1 1N2 2W3 3S0", []string{"0E 1N 2W 3S", "0N 3E 2S 1W"}, [][]int{{1, 1, 1, 1}, {-1, -1, -1, -1}}},
		// The same square, counted to the right.
		{4, "0N1 1E2 2S3 3W0", []string{"0E 3N 2W 1S", "0N 1E 2S 3W"}, [][]int{{1, 1, 1, 1}, {-1, -1, -1, -1}}},
		// A cross: one comes back to its middle four times.
		{5, "0E1 0N2 0W3 0S4", []string{"0E 1W 0S 4N 0W 3E 0N 2S"}, [][]int{{-2, 1, -2, 1, -2, 1, -2, 1}}},
		// A T, and beside it two cells: each part has a face of its own.
		{6, "5E2 2E1 2S3 4W0", []string{"0E 4W", "1W 2S 3N 2W 5E 2E"}, [][]int{{-2, -2}, {1, -2, 1, -2, 0, -2}}},
		// Two squares, side by side.
		{6, "0E1 1E2 2N3 3W4 4W5 5S0 1N4", []string{"0E 1N 4W 5S", "0N 5E 4E 3S 2W 1W", "1E 2N 3W 4S"},
			[][]int{{1, 1, 1, 1}, {-1, 0, -1, -1, 0, -1}, {1, 1, 1, 1}}},
		// A square with an edge that sticks into it.
		{6, "0E1 1N2 2W3 3W4 4S0 3S5", []string{"0E 1N 2W 3S 5N 3W 4S", "0N 4E 3E 2S 1W"},
			[][]int{{1, 1, 1, -2, 1, 1, 1}, {-1, 0, -1, -1, -1}}},
		// What can't be drawn has faces too: two cells that are next to one another twice, or all round.
		{2, "0E1 1E0", []string{"0E 1E", "0W 1W"}, [][]int{{0, 0}, {0, 0}}},
		{2, "0E1 0N1", []string{"0E 1S", "0N 1W"}, [][]int{{-1, 1}, {1, -1}}},
		{2, "0E1 0N1 0W1 0S1", []string{"0E 1N 0W 1S", "0N 1W 0S 1E"}, [][]int{{1, 1, 1, 1}, {1, 1, 1, 1}}},
		// Four cells that lead round to the left and to the right by turns.
		{4, "0E1 1N2 2E3 3N0", []string{"0E 1N 2E 3N", "0S 3W 2S 1W"}, [][]int{{1, -1, 1, -1}, {-1, 1, -1, 1}}},
	} {
		cells := cellsOf(t, x.cells, x.edges)
		faces := holdFaces(t, cells)
		if len(faces) != len(x.faces) {
			t.Errorf("%q: faces %v, not %q", x.edges, faces, x.faces)
			continue
		}
		for i, f := range faces {
			if !slices.Equal(f, dartsOf(x.faces[i])) {
				t.Errorf("%q: face %v, not %q", x.edges, f, x.faces[i])
			}
			if turns := Turns(cells, f); !slices.Equal(turns, x.turns[i]) {
				t.Errorf("%q: turns %v, not %v", x.edges, turns, x.turns[i])
			}
		}
	}
}

// The chapter's example.
func TestP12_2Example(t *testing.T) {
	cells := loners(2)
	tie(cells, 0, api.East, 1, 0)
	faces, err := Faces(cells)
	if err != api.OK || len(faces) != 1 || len(faces[0]) != 2 {
		t.Fatalf("%v, %d", faces, err)
	}
	if turns := Turns(cells, faces[0]); !slices.Equal(turns, []int{-2, -2}) {
		t.Errorf("turns %v", turns)
	}
}

func TestP12_2CellsThatMayNotBe(t *testing.T) {
	for name, x := range bads() {
		if faces, err := Faces(x.cells); len(faces) != 0 || err != x.want {
			t.Errorf("%s: Faces = %v, %d, not %d", name, faces, err, x.want)
		}
		if turns := Turns(x.cells, dartsOf("0E 1W 0N 2N 3S")); !slices.Equal(turns, make([]int, 5)) {
			t.Errorf("%s: Turns = %v", name, turns)
		}
		if turns := Turns(x.cells, nil); len(turns) != 0 {
			t.Errorf("%s: Turns of no darts = %v", name, turns)
		}
	}
}

// Of lists that aren't faces, too, each dart is asked for by itself.
func TestP12_2TurnsOfAnyDarts(t *testing.T) {
	cells := cellsOf(t, 6, "0E1 1N2 2W3 3S0 1E4")
	f := []Dart{{4, api.West}, {0, api.West}, {1, api.East}, {1, api.East}, {5, api.East}, {6, api.East},
		{-1, api.East}, {0, 4}, {0, -1}, {math.MinInt, math.MaxInt}, {math.MaxInt, math.MinInt}, {3, api.South}, {1, api.North}, {0, api.East}, {0, api.North}}
	was := slices.Clone(f)
	want := []int{0, 0, -2, -2, 0, 0, 0, 0, 0, 0, 0, 1, 1, 1, -1}
	if turns := Turns(cells, f); !slices.Equal(turns, want) {
		t.Errorf("Turns = %v, not %v", turns, want)
	}
	if !slices.Equal(f, was) {
		t.Errorf("%v became %v", was, f)
	}
	for _, none := range [][]Dart{nil, {}} {
		if turns := Turns(cells, none); len(turns) != 0 {
			t.Errorf("Turns of no darts = %v", turns)
		}
		if turns := Turns(nil, none); len(turns) != 0 {
			t.Errorf("Turns of nothing = %v", turns)
		}
	}
	if turns := Turns(nil, dartsOf("0E 0N")); !slices.Equal(turns, []int{0, 0}) {
		t.Errorf("Turns without cells = %v", turns)
	}
}

func TestP12_2LongListsOfDarts(t *testing.T) {
	cells := plane(new(dice), 64, 64, 0)
	f := make([]Dart, 200000)
	for i := range f {
		f[i] = Dart{i % api.MaxCells, api.East}
	}
	turns := Turns(cells, f)
	if len(turns) != len(f) {
		t.Fatalf("%d turns", len(turns))
	}
	for i, turn := range turns {
		if want := turnInPlane(f[i].Cell); turn != want {
			t.Fatalf("at %v: %d, not %d", f[i], turn, want)
		}
	}
}

// turnInPlane: how one turns, going East in the full plane of 64 by 64 cells.
func turnInPlane(v int) int {
	switch {
	case v%64 == 63:
		return 0
	case v/64 < 63:
		return 1
	case v%64 < 62:
		return 0
	}
	return -1
}

func TestP12_2Rotation(t *testing.T) {
	for _, x := range []struct {
		turns []int
		want  int
	}{
		{nil, 0}, {[]int{}, 0}, {[]int{0}, 0}, {[]int{1}, 1}, {[]int{-1}, -1}, {[]int{-2}, -2},
		{[]int{2}, 0}, {[]int{-3}, 0}, {[]int{math.MaxInt}, 0}, {[]int{math.MinInt}, 0},
		{[]int{1, 1, 1, 1}, 4}, {[]int{-1, -1, -1, -1}, -4}, {[]int{-2, -2}, -4},
		{[]int{1, 2, 1, -3, -2, 4, 0, -4, 1}, 1},
		{[]int{math.MaxInt, 1, math.MinInt, 1, math.MinInt + 1, -2, math.MaxInt - 1}, 0},
	} {
		was := slices.Clone(x.turns)
		if got := Rotation(x.turns); got != x.want {
			t.Errorf("Rotation(%v) = %d, not %d", x.turns, got, x.want)
		}
		if !slices.Equal(x.turns, was) {
			t.Errorf("%v became %v", was, x.turns)
		}
	}
	long := make([]int, 100000)
	for i := range long {
		long[i] = -2
	}
	if got := Rotation(long); got != -200000 {
		t.Errorf("Rotation of 100000 turns back = %d", got)
	}
}

// One goes round what is to the left: of a full plane each square has a face, and what is outside.
func TestP12_2PlanesAreMadeOfSquares(t *testing.T) {
	for _, size := range [][2]int{{1, 2}, {2, 1}, {2, 2}, {3, 2}, {2, 5}, {6, 6}, {32, 32}, {1, api.MaxCells}, {api.MaxCells, 1}, {2, api.MaxCells / 2}} {
		wide, high := size[0], size[1]
		cells := plane(new(dice), wide, high, 0)
		faces := holdFaces(t, cells)
		if len(faces) != (wide-1)*(high-1)+1 {
			t.Fatalf("%d by %d: %d faces", wide, high, len(faces))
		}
		outer := 0
		for _, f := range faces {
			switch r := Rotation(Turns(cells, f)); {
			case r == -4 && len(f) == 2*(wide-1)+2*(high-1):
				outer++
			case r != 4 || len(f) != 4 || f[0].Dir != api.East:
				t.Fatalf("%d by %d: face %v, rotation %d", wide, high, f, r)
			}
		}
		if outer != 1 {
			t.Fatalf("%d by %d: %d outer faces", wide, high, outer)
		}
	}
}

func TestP12_2AllSmallCells(t *testing.T) {
	for n := range 5 {
		eachGrid(n, func(cells []api.Cell) { holdFaces(t, cells) })
	}
}

func TestP12_2CellsByChance(t *testing.T) {
	for seed := range 300 {
		s := dice(seed)
		holdFaces(t, plane(&s, 1+s.below(9), 1+s.below(9), s.below(8)))
		holdFaces(t, wild(&s, 2+s.below(30), s.below(120)))
	}
}

// Nothing hangs on what was asked before, and no answer shares memory with another one.
func TestP12_2AnswersAreNewMemory(t *testing.T) {
	s := dice(5)
	cells := plane(&s, 5, 5, 3)
	was := slices.Clone(cells)
	one := holdFaces(t, cells)
	other, _ := Faces(cells)
	turns, again := Turns(cells, one[0]), Turns(cells, one[0])
	if !slices.EqualFunc(one, other, slices.Equal) || !slices.Equal(turns, again) {
		t.Fatal("two answers to one question are unlike")
	}
	for i := range one {
		// What is written behind one list's length is not to be seen in another one.
		_ = append(one[i], Dart{-7, -7})
		clear(one[i])
		if !slices.EqualFunc(one[i+1:], other[i+1:], slices.Equal) {
			t.Fatalf("face %d shares memory with a later one", i)
		}
	}
	clear(turns)
	if slices.Equal(turns, again) || !slices.Equal(again, Turns(cells, other[0])) {
		t.Error("two answers of Turns share memory")
	}
	if !slices.Equal(cells, was) {
		t.Errorf("%v became %v", was, cells)
	}
	for _, f := range other {
		holdFace(t, cells, f)
	}
}

func TestP12_3EachDartInJustOneFace(t *testing.T) {
	s := dice(77)
	for _, cells := range [][]api.Cell{plane(&s, 64, 64, 3), wild(&s, api.MaxCells, 40000), plane(&s, 7, 9, 2), wild(&s, 6, 40)} {
		faces, err := Faces(cells)
		if err != api.OK {
			t.Fatal(err)
		}
		count := map[Dart]int{}
		for _, f := range faces {
			for _, d := range f {
				count[d]++
			}
		}
		all := dartsIn(cells)
		if len(all) < 10 || len(count) != len(all) {
			t.Fatalf("%d darts in faces, not %d", len(count), len(all))
		}
		for _, d := range all {
			if count[d] != 1 {
				t.Errorf("%v is in %d faces", d, count[d])
			}
		}
	}
}
