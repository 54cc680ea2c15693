package norm

import (
	"math"
	"slices"
	"strconv"
	"strings"
	"testing"

	"muntin/api"
	"muntin/grid"
	"muntin/parse"
)

// shape of its vertices' word and its edges' lines.
func shape(t *testing.T, lines ...string) api.Shape {
	t.Helper()
	s, line, err := parse.Parse("shape " + strings.Join(append(lines, "end"), "\n") + "\n")
	if err != api.OK {
		t.Fatalf("%q: line %d, %d", lines, line, err)
	}
	return s
}

// cellsOf: so many cells with these edges, as "0E5=2" is one from 0 to the East to 5, owned by 2, and "0E5=c" by Cage.
func cellsOf(t *testing.T, n int, edges string) []api.Cell {
	t.Helper()
	cells := loners(n)
	for _, one := range strings.Fields(edges) {
		link, owned, _ := strings.Cut(one, "=")
		at := strings.IndexAny(link, "ENWS")
		v, _ := strconv.Atoi(link[:at])
		w, _ := strconv.Atoi(link[at+1:])
		owner, err := strconv.Atoi(owned)
		if err != nil {
			owner = api.Cage
		}
		tie(cells, v, strings.Index("ENWS", link[at:at+1]), w, owner)
	}
	return cells
}

func TestP11_1ByHand(t *testing.T) {
	for _, x := range []struct {
		lines []string
		cells int
		edges string
		first []int
		ways  [][]int
	}{
		{[]string{"-"}, 0, "", nil, nil},
		{[]string{"p"}, 1, "", []int{0}, nil},
		{[]string{"ppp"}, 3, "", []int{0, 1, 2}, nil},
		{[]string{"b"}, 4, "0E1=c 1N2=c 0N3=c 3E2=c", []int{0}, nil},
		{[]string{"pbpb"}, 10, "1E2=c 2N3=c 1N4=c 4E3=c 6E7=c 7N8=c 6N9=c 9E8=c", []int{0, 1, 5, 6}, nil},
		{[]string{"pp", "0 E 1"}, 2, "0E1=0", []int{0, 1}, [][]int{{0, 1}}},
		{[]string{"pp", "1 N 0"}, 2, "1N0=0", []int{0, 1}, [][]int{{1, 0}}},
		{[]string{"pp", "0 W 1"}, 2, "0W1=0", []int{0, 1}, [][]int{{0, 1}}},
		{[]string{"pp", "0 S 1"}, 2, "0S1=0", []int{0, 1}, [][]int{{0, 1}}},
		{[]string{"pp", "0 E 1", "1 E 0"}, 2, "0E1=0 1E0=1", []int{0, 1}, [][]int{{0, 1}, {1, 0}}},
		{[]string{"pp", "0 E 1 L"}, 3, "0E2=0 2N1=0", []int{0, 1}, [][]int{{0, 2, 1}}},
		{[]string{"pp", "0 E 1 R"}, 3, "0E2=0 2S1=0", []int{0, 1}, [][]int{{0, 2, 1}}},
		{[]string{"pp", "0 N 1 LR", "1 W 0 RL"}, 6, "0N2=0 2W3=0 3N1=0 1W4=1 4N5=1 5W0=1", []int{0, 1}, [][]int{{0, 2, 3, 1}, {1, 4, 5, 0}}},
		{[]string{"p", "0 S 0 RRR"}, 4, "0S1=0 1W2=0 2N3=0 3E0=0", []int{0}, [][]int{{0, 1, 2, 3, 0}}},
		{[]string{"b", "0 E 0", "0 N 0"}, 8, "0E7=c 7E1=c 1N4=c 4N2=c 0N6=c 6N3=c 3E5=c 5E2=c 4E6=0 5N7=1", []int{0}, [][]int{{4, 6}, {5, 7}}},
		{[]string{"b", "0 N 0 RR"}, 8, "0E1=c 1N2=c 0N3=c 3E4=c 4E5=c 5E2=c 4N6=0 6E7=0 7S5=0", []int{0}, [][]int{{4, 6, 7, 5}}},
		{[]string{"bb", "1 W 0", "0 E 1", "0 E 0 LL"}, 16,
			"0E1=c 1N4=c 4N5=c 5N6=c 6N7=c 7N2=c 0N3=c 3E2=c 8E9=c 9N10=c 8N12=c 12N13=c 13N11=c 11E10=c 12W4=0 5E13=1 6E14=2 14N15=2 15W7=2",
			[]int{0, 8}, [][]int{{12, 4}, {5, 13}, {6, 14, 15, 7}}},
		{[]string{"bp", "0 S 1", "1 E 0 R", "1 W 0 L"}, 10,
			"0E6=c 6E1=c 1N2=c 0N3=c 3E4=c 4E5=c 5E2=c 6S7=0 7E8=1 8S4=1 7W9=2 9S5=2",
			[]int{0, 7}, [][]int{{6, 7}, {7, 8, 4}, {7, 9, 5}}},
	} {
		want := Norm{Cells: cellsOf(t, x.cells, x.edges), First: x.first, Ways: x.ways}
		if got, err := Of(shape(t, x.lines...)); err != api.OK || !sameNorm(got, want) {
			t.Errorf("Of(%q) is\n%v, %d, not\n%v", x.lines, got, err, want)
		}
	}
}

// The chapter's examples.
func TestP11_1Examples(t *testing.T) {
	n, err := Of(shape(t, "pb", "0 E 1"))
	want := Norm{Cells: cellsOf(t, 6, "0E5=0 1E2=c 2N3=c 1N5=c 5N4=c 4E3=c"), First: []int{0, 1}, Ways: [][]int{{0, 5}}}
	if err != api.OK || !sameNorm(n, want) {
		t.Errorf("a point and the box to the right of it: %v, %d", n, err)
	}
	n, err = Of(shape(t, "bp", "0 E 1"))
	want = Norm{Cells: cellsOf(t, 6, "0E1=c 1N4=c 4N2=c 0N3=c 3E2=c 4E5=0"), First: []int{0, 5}, Ways: [][]int{{4, 5}}}
	if err != api.OK || !sameNorm(n, want) {
		t.Errorf("a box with one end on its East: %v, %d", n, err)
	}
}

// A side's ends are in the order of the edges: whatever their order, the first one's is next to the corner in the west or south.
func TestP11_1SidesAreInTheOrderOfEdges(t *testing.T) {
	edges := []api.Edge{{From: 0, To: 1}, {From: 1, To: 0, Dir: api.West, Bends: "LR"}, {From: 0, To: 0, Bends: "RR"}, {From: 0, To: 1, Bends: "L"}}
	for code := range 24 {
		left := slices.Clone(edges)
		var row []api.Edge
		for k := len(left); k > 0; k-- {
			row = append(row, left[code%k])
			left = slices.Delete(left, code%k, code%k+1)
			code /= k
		}
		n, _ := holdPlain(t, api.Shape{Boxes: []bool{true, true}, Edges: row})
		at := 1
		for _, w := range n.Ways {
			for _, c := range []int{w[0], w[len(w)-1]} {
				if c >= n.First[1] {
					continue
				}
				if n.Cells[at].Next[api.North] != c {
					t.Fatalf("%v: North of %d is not %d in %v", row, at, c, n.Cells)
				}
				at = c
			}
		}
		if at != 8 || n.Cells[at].Next[api.North] != 2 {
			t.Fatalf("%v: the last end on the East is %d", row, at)
		}
	}
}

// All shapes of one or two vertices with few edges.
func TestP11_1SmallShapes(t *testing.T) {
	short := []string{"", "L", "R", "LL", "LR", "RL", "RR"}
	longer := append(slices.Clone(short), "LLL", "LLR", "RRR", "LLLL", "RRRR", "RRRL", "LRLRL")
	for _, boxes := range [][]bool{{false}, {true}} {
		eachShape(boxes, 0, short, func(s api.Shape) { holdPlain(t, s) })
		eachShape(boxes, 2, longer, func(s api.Shape) { holdPlain(t, s) })
		eachShape(boxes, 3, short, func(s api.Shape) { holdPlain(t, s) })
	}
	for _, boxes := range [][]bool{{false, false}, {false, true}, {true, false}, {true, true}} {
		eachShape(boxes, 0, short, func(s api.Shape) { holdPlain(t, s) })
		eachShape(boxes, 1, longer, func(s api.Shape) { holdPlain(t, s) })
		eachShape(boxes, 2, short, func(s api.Shape) { holdPlain(t, s) })
		eachShape(boxes, 3, []string{"", "R"}, func(s api.Shape) { holdPlain(t, s) })
	}
}

func TestP11_1OtherShapes(t *testing.T) {
	found := map[api.Errno]int{}
	for seed := range uint64(6000) {
		_, err := holdPlain(t, cast(seed, seed%4 > 0))
		found[err]++
	}
	for _, err := range []api.Errno{api.OK, api.ErrSide, api.ErrTurn} {
		if found[err] < 20 {
			t.Errorf("%d shapes of the error %d", found[err], err)
		}
	}
}

// holdError holds Of a shape to an error, and to nothing beside it.
func holdError(t *testing.T, s api.Shape, want api.Errno) {
	t.Helper()
	if n, err := Of(s); err != want || len(n.Cells) != 0 || len(n.First) != 0 || len(n.Ways) != 0 {
		t.Errorf("Of %d vertices and %d edges (%.80v ..) is %.80v, %d, not %d", len(s.Boxes), len(s.Edges), s.Edges, n, err, want)
	}
}

func TestP11_1ShapesThatMayNotBeWritten(t *testing.T) {
	two := []bool{false, true}
	for _, v := range []int{math.MinInt, -4096, -2, -1, 2, 3, 4096, 1 << 32, 1<<32 + 1, math.MaxInt} {
		holdError(t, api.Shape{Boxes: two, Edges: []api.Edge{{From: v, To: 1}}}, api.ErrRange)
		holdError(t, api.Shape{Boxes: two, Edges: []api.Edge{{From: 1, To: v}}}, api.ErrRange)
		holdError(t, api.Shape{Boxes: two, Edges: []api.Edge{{}, {From: v, To: v, Dir: 4, Bends: "X"}}}, api.ErrRange)
	}
	for _, d := range []int{math.MinInt, -4, -1, 4, 5, 8, 1 << 32, math.MaxInt} {
		holdError(t, api.Shape{Boxes: two, Edges: []api.Edge{{To: 1, Dir: d}}}, api.ErrArg)
		holdError(t, api.Shape{Boxes: two, Edges: []api.Edge{{From: 1, Dir: d, Bends: "L"}}}, api.ErrArg)
	}
	for _, bends := range []string{"l", "X", "LX", "XR", " ", "L R", "\x00", "\xff", "L\xcc", "Ł", "Ｌ"} {
		holdError(t, api.Shape{Boxes: two, Edges: []api.Edge{{To: 1, Bends: bends}}}, api.ErrArg)
	}
	holdError(t, api.Shape{Edges: []api.Edge{{}}}, api.ErrRange)
	const most = api.MaxCells
	holdError(t, api.Shape{Boxes: make([]bool, most+1)}, api.ErrMany)
	holdError(t, api.Shape{Boxes: two, Edges: make([]api.Edge, most+1)}, api.ErrMany)
	holdError(t, api.Shape{Boxes: two, Edges: []api.Edge{{To: 1, Bends: strings.Repeat("L", most+1)}}}, api.ErrMany)
}

// boxes and, behind them, points.
func vertices(boxes, points int) []bool {
	return append(slices.Repeat([]bool{true}, boxes), make([]bool, points)...)
}

func TestP11_1HowManyCellsThereMayBe(t *testing.T) {
	const most = api.MaxCells
	row := make([]api.Edge, most-1)
	for i := range row {
		row[i] = api.Edge{From: i, To: i + 1, Dir: api.North}
	}
	bent := slices.Clone(row[:most-2])
	bent[7].Bends = "L"
	for name, s := range map[string]api.Shape{
		"points":                   {Boxes: vertices(0, most)},
		"points in a row":          {Boxes: vertices(0, most), Edges: row},
		"points and a bend":        {Boxes: vertices(0, most-1), Edges: bent},
		"boxes":                    {Boxes: vertices(most/4, 0)},
		"boxes and points":         {Boxes: vertices(most/4-1, 4)},
		"boxes and ends":           {Boxes: vertices(most/4-1, 0), Edges: []api.Edge{{To: 1}, {From: 3, Dir: api.South}}},
		"boxes, points and ends":   {Boxes: vertices(most/4-1, 3), Edges: []api.Edge{{To: most/4 - 1}}},
		"boxes, ends and bends":    {Boxes: vertices(most/4-1, 0), Edges: []api.Edge{{Bends: "LR"}}},
		"ends":                     {Boxes: vertices(1, 0), Edges: make([]api.Edge, most/2-2)},
		"a point and bends":        {Boxes: vertices(0, 1), Edges: []api.Edge{{Bends: strings.Repeat("LLLR", most/4-1) + "LLL"}}},
		"a box, its ends, bends":   {Boxes: vertices(1, 0), Edges: []api.Edge{{Bends: strings.Repeat("R", most-6)}}},
		"bends of edges and boxes": {Boxes: vertices(2, 0), Edges: slices.Repeat([]api.Edge{{To: 1, Bends: "RL"}}, most/4-2)},
	} {
		t.Run(name, func(t *testing.T) {
			n, err := holdPlainAtTheLimit(t, s)
			if err != api.OK || len(n.Cells) != most {
				t.Fatalf("%d cells, %d", len(n.Cells), err)
			}
			holdTooManyWithOneMore(t, s)
		})
	}
}

// The greatest row of points, cell by cell.
func TestP11_1TheGreatestRow(t *testing.T) {
	s := api.Shape{Boxes: vertices(0, api.MaxCells)}
	want := Norm{Cells: loners(api.MaxCells), First: []int{0}}
	for v := 1; v < api.MaxCells; v++ {
		s.Edges = append(s.Edges, api.Edge{From: v, To: v - 1, Dir: api.West})
		tie(want.Cells, v, api.West, v-1, v-1)
		want.First = append(want.First, v)
		want.Ways = append(want.Ways, []int{v, v - 1})
	}
	if got, err := Of(s); err != api.OK || !sameNorm(got, want) {
		t.Errorf("%.200v, %d", got, err)
	}
}

// holdPlainAtTheLimit: the plain rule goes through all edges for each side; few of them are enough of it.
func holdPlainAtTheLimit(t *testing.T, s api.Shape) (Norm, api.Errno) {
	t.Helper()
	if len(s.Boxes)*len(s.Edges) < 1<<18 {
		return holdPlain(t, s)
	}
	n, err := Of(s)
	if e := grid.Check(n.Cells); e != api.OK {
		t.Fatalf("the cells may not be: %d", e)
	}
	return n, err
}

// holdTooManyWithOneMore: of a shape that has as many cells as there may be none has a cell more.
func holdTooManyWithOneMore(t *testing.T, s api.Shape) {
	t.Helper()
	more := copied(s)
	more.Boxes = append(more.Boxes, false)
	holdError(t, more, api.ErrMany)
	more = copied(s)
	more.Boxes[0] = !more.Boxes[0]
	if more.Boxes[0] {
		holdError(t, more, api.ErrMany)
	}
	more = copied(s)
	for i := range more.Edges {
		more.Edges[i].Bends += "L"
		holdError(t, more, api.ErrMany)
		more.Edges[i].Bends = s.Edges[i].Bends
		if i > 2 {
			break
		}
	}
	for i, isBox := range s.Boxes {
		if isBox {
			more.Edges = append(slices.Clone(s.Edges), api.Edge{From: i, To: len(s.Boxes) - 1, Dir: api.North})
			holdError(t, more, api.ErrMany)
			break
		}
	}
}

// Far more cells than there may be.
func TestP11_1FarTooManyCells(t *testing.T) {
	const most = api.MaxCells
	edges := make([]api.Edge, most)
	for i := range edges {
		edges[i] = api.Edge{From: i, To: most - 1 - i, Dir: i % 4, Bends: "R"}
	}
	holdError(t, api.Shape{Boxes: vertices(most, 0), Edges: edges}, api.ErrMany)
	holdError(t, api.Shape{Boxes: vertices(0, most), Edges: edges}, api.ErrMany)
	holdError(t, api.Shape{Boxes: vertices(1, most-1), Edges: make([]api.Edge, most)}, api.ErrMany)
}

// The first of the errors that holds is told, whatever edge it is of.
func TestP11_1TheFirstErrorIsTold(t *testing.T) {
	const most = api.MaxCells
	crowd := []api.Edge{{From: 1, To: 2, Dir: api.North}, {From: 1, To: 2, Dir: api.North, Bends: "LL"}}
	loop := api.Edge{From: 0, To: 0, Dir: api.West}
	wrong := []api.Edge{{From: 0, To: -1}}
	arg := []api.Edge{{Bends: "LX"}}
	few, many := vertices(0, 3), append(vertices(0, 3), vertices(most/4-1, 2)...)
	full := append(vertices(0, 3), vertices(most/4-1, 1)...)
	for _, x := range []struct {
		boxes []bool
		edges [][]api.Edge
		want  api.Errno
	}{
		{few, [][]api.Edge{crowd}, api.ErrSide},
		{few, [][]api.Edge{{loop}}, api.ErrTurn},
		{few, [][]api.Edge{{loop}, crowd}, api.ErrSide},
		{few, [][]api.Edge{crowd, {loop}}, api.ErrSide},
		{few, [][]api.Edge{{loop, loop}}, api.ErrSide},
		{few, [][]api.Edge{{loop}, crowd, wrong}, api.ErrRange},
		{few, [][]api.Edge{{loop}, crowd, arg}, api.ErrArg},
		{few, [][]api.Edge{{loop}, crowd, arg, wrong}, api.ErrArg},
		{few, [][]api.Edge{wrong, arg, {loop}, crowd}, api.ErrRange},
		{full, nil, api.OK},
		{full, [][]api.Edge{{loop}}, api.ErrTurn},
		{full, [][]api.Edge{{loop, loop}}, api.ErrSide},
		{full, [][]api.Edge{crowd}, api.ErrMany},
		{many, nil, api.ErrMany},
		{many, [][]api.Edge{{loop}}, api.ErrMany},
		{many, [][]api.Edge{crowd}, api.ErrMany},
		{many, [][]api.Edge{{loop}, crowd}, api.ErrMany},
		{many, [][]api.Edge{wrong}, api.ErrRange},
		{many, [][]api.Edge{{loop}, arg}, api.ErrArg},
	} {
		s := api.Shape{Boxes: x.boxes, Edges: slices.Concat(x.edges...)}
		if x.want != api.OK {
			holdError(t, s, x.want)
		} else if n, err := Of(s); err != api.OK || len(n.Cells) != most {
			t.Errorf("%d cells, %d", len(n.Cells), err)
		}
	}
}

// A point has room for one end on each side; a box for any number, also for both of one edge without bends.
func TestP11_1RoomOnSides(t *testing.T) {
	for side := range 4 {
		at := opposite[side]
		pairs := [][]api.Edge{
			{{From: 0, To: 1, Dir: side}, {From: 0, To: 2, Dir: side}},
			{{From: 0, To: 1, Dir: side}, {From: 2, To: 0, Dir: at}},
			{{From: 1, To: 0, Dir: at}, {From: 2, To: 0, Dir: at}},
			{{From: 0, To: 0, Dir: side, Bends: "LL"}},
			{{From: 0, To: 0, Dir: side, Bends: "RR"}},
			{{From: 0, To: 0, Dir: side, Bends: "RRLLRR"}},
		}
		for _, edges := range pairs {
			holdError(t, api.Shape{Boxes: []bool{false, true, true}, Edges: edges}, api.ErrSide)
			if _, err := holdPlain(t, api.Shape{Boxes: []bool{true, true, true}, Edges: edges}); err != api.OK {
				t.Errorf("boxes with %v: %d", edges, err)
			}
		}
		loop := []api.Edge{{Dir: side}}
		holdError(t, api.Shape{Boxes: []bool{false}, Edges: loop}, api.ErrTurn)
		holdError(t, api.Shape{Boxes: []bool{true, false}, Edges: []api.Edge{{Dir: side}, {From: 1, To: 1, Dir: side}}}, api.ErrTurn)
		if _, err := holdPlain(t, api.Shape{Boxes: []bool{true}, Edges: loop}); err != api.OK {
			t.Errorf("a box with %v: %d", loop, err)
		}
		for _, bends := range []string{"LR", "LLLL", "RRRR", "L", "R", "LLL", "RRR"} {
			if _, err := holdPlain(t, api.Shape{Boxes: []bool{false}, Edges: []api.Edge{{Dir: side, Bends: bends}}}); err != api.OK {
				t.Errorf("a point with %q: %d", bends, err)
			}
		}
	}
}

func TestP11_1EmptyListsAreAlike(t *testing.T) {
	for _, s := range []api.Shape{{}, {Boxes: []bool{}}, {Edges: []api.Edge{}}, {Boxes: make([]bool, 0, 3), Edges: make([]api.Edge, 0, 3)}} {
		if n, err := Of(s); err != api.OK || len(n.Cells) != 0 || len(n.First) != 0 || len(n.Ways) != 0 {
			t.Errorf("Of(%v) is %v, %d", s, n, err)
		}
	}
}

func TestP11_1WhatLiesBehindTheLengths(t *testing.T) {
	boxes := []bool{true, false, true, true}
	edges := []api.Edge{{To: 1}, {From: 3, To: 9, Dir: 7, Bends: "X"}, {}}
	wasBoxes, wasEdges := slices.Clone(boxes), slices.Clone(edges)
	n, err := holdPlain(t, api.Shape{Boxes: boxes[:2], Edges: edges[:1]})
	if err != api.OK || len(n.Cells) != 6 {
		t.Errorf("%v, %d", n, err)
	}
	if !slices.Equal(boxes, wasBoxes) || !slices.Equal(edges, wasEdges) {
		t.Error("what lies behind the lengths was changed")
	}
}

// spoil all of a norm's lists, and what lies behind them.
func spoil(n Norm) {
	for _, w := range n.Ways {
		w = w[:cap(w)]
		for i := range w {
			w[i] = -7
		}
	}
	first, ways, cells := n.First[:cap(n.First)], n.Ways[:cap(n.Ways)], n.Cells[:cap(n.Cells)]
	for i := range first {
		first[i] = -7
	}
	clear(ways)
	clear(cells)
}

func TestP11_1AnswersAreNew(t *testing.T) {
	for seed := range uint64(300) {
		s := cast(seed, true)
		one, _ := Of(s)
		other, _ := Of(s)
		want, _ := plain(s)
		spoil(one)
		if again, _ := Of(s); !sameNorm(other, want) || !sameNorm(again, want) {
			t.Fatalf("answers of Of(%v) share memory", s)
		}
	}
}

// No list of one answer shares memory with another one of it, also not behind its length.
func TestP11_1ListsOfOneAnswerShareNothing(t *testing.T) {
	for seed := range uint64(300) {
		s := cast(seed, true)
		n, _ := Of(s)
		want, _ := plain(s)
		for i := range n.Ways {
			spoil(Norm{Ways: n.Ways[i : i+1 : i+1]})
			n.Ways[i] = want.Ways[i]
			if !sameNorm(n, want) {
				t.Fatalf("Of(%v): the way %d shares memory", s, i)
			}
		}
		n, _ = Of(s)
		spoil(Norm{First: n.First})
		n.First = want.First
		if !sameNorm(n, want) {
			t.Fatalf("Of(%v): First shares memory", s)
		}
	}
}

// holdSides holds a cell to the sides on which it has a next one.
func holdSides(t *testing.T, c api.Cell, sides ...int) {
	t.Helper()
	for d, w := range c.Next {
		if (w != -1) != slices.Contains(sides, d) {
			t.Fatalf("a cell with ends on %v is %v", sides, c)
		}
	}
}

func TestP11_2CellsMayBe(t *testing.T) {
	for seed := range uint64(3000) {
		s := cast(seed, true)
		n, err := Of(s)
		if err != api.OK || grid.Check(n.Cells) != api.OK {
			t.Fatalf("Of(%v) is %v, %d", s, n, err)
		}
		for v, isBox := range s.Boxes {
			if isBox {
				continue
			}
			var sides []int
			for _, e := range s.Edges {
				if e.From == v {
					sides = append(sides, e.Dir)
				}
				if e.To == v {
					sides = append(sides, arrives(e))
				}
			}
			holdSides(t, n.Cells[n.First[v]], sides...)
		}
		for i, e := range s.Edges {
			dirs := walk(e)
			for j := range len(e.Bends) {
				holdSides(t, n.Cells[n.Ways[i][j+1]], opposite[dirs[j]], dirs[j+1])
			}
		}
	}
}
