package parse

import (
	"math"
	"slices"
	"strings"
	"testing"

	"muntin/api"
)

// head is so much of a text as one likes to read.
func head(s string) string { return s[:min(len(s), 80)] }

func points(n int) []bool { return make([]bool, n) }

// checkCheck: what Check tells of a shape of so many points with these edges.
func checkCheck(t *testing.T, vertices int, edges []api.Edge, want api.Errno) {
	t.Helper()
	if got := Check(api.Shape{Boxes: points(vertices), Edges: edges}); got != want {
		t.Errorf("Check of %d vertices and %d edges (%v ..) is %d, not %d", vertices, len(edges), edges[:min(len(edges), 3)], got, want)
	}
}

var (
	wrongDirs  = []int{math.MinInt, math.MinInt + 1, -4, -1, 4, 5, 7, 8, math.MaxInt - 1, math.MaxInt}
	wrongBends = []string{"l", "r", "X", "LX", "XL", "LXR", " ", "L R", "L ", " L", "-", "\x00", "L\x00", "\n", "\xff", "L\xccR", "Ł", "Ｌ", "LR\u0305", "\uFFFD"}
)

func TestP8_1CheckByHand(t *testing.T) {
	checkCheck(t, 0, nil, api.OK)
	checkCheck(t, 0, []api.Edge{}, api.OK)
	checkCheck(t, 1, nil, api.OK)
	checkCheck(t, 1, []api.Edge{{}}, api.OK)
	checkCheck(t, 2, []api.Edge{{From: 0, To: 1, Dir: api.East}}, api.OK)
	checkCheck(t, 3, []api.Edge{{From: 2, To: 2, Dir: api.South, Bends: "LLRRLR"}, {From: 1, To: 0, Dir: api.West, Bends: "R"}}, api.OK)
	for d := range 4 {
		checkCheck(t, 1, []api.Edge{{Dir: d, Bends: "L"}}, api.OK)
	}
	if got := Check(api.Shape{Boxes: []bool{true, false, true}, Edges: []api.Edge{{From: 2, To: 1, Bends: "LR"}}}); got != api.OK {
		t.Errorf("Check of a shape with boxes is %d", got)
	}
}

func TestP8_1CheckOfWrongEdges(t *testing.T) {
	for _, vertices := range []int{0, 1, 2, 3, api.MaxCells} {
		for _, v := range []int{math.MinInt, math.MinInt + 1, -2, -1, vertices, vertices + 1, 9999999, 1 << 32, 1<<32 + 1, math.MaxInt} {
			checkCheck(t, vertices, []api.Edge{{From: v}}, api.ErrRange)
			checkCheck(t, vertices, []api.Edge{{To: v}}, api.ErrRange)
			checkCheck(t, vertices, []api.Edge{{From: v, To: v, Dir: 4, Bends: "X"}}, api.ErrRange)
		}
	}
	checkCheck(t, api.MaxCells, []api.Edge{{From: api.MaxCells - 1, To: api.MaxCells - 1}}, api.OK)
	for _, d := range wrongDirs {
		checkCheck(t, 1, []api.Edge{{Dir: d}}, api.ErrArg)
	}
	for _, bends := range wrongBends {
		checkCheck(t, 1, []api.Edge{{Bends: bends}}, api.ErrArg)
	}
}

// All bytes that stand alone, or among bends.
func TestP8_1OnlyTwoLettersAreBends(t *testing.T) {
	for b := range 256 {
		one := string([]byte{byte(b)})
		want := api.ErrArg
		if one == "L" || one == "R" {
			want = api.OK
		}
		for _, bends := range []string{one, "L" + one, one + "R", "RL" + one + "LR"} {
			checkCheck(t, 1, []api.Edge{{Bends: bends}}, want)
		}
	}
}

// Edges are gone through in order, and of the first wrong one what it links is asked first.
func TestP8_1CheckTellsTheFirstWrongEdge(t *testing.T) {
	kinds := []struct {
		edge api.Edge
		err  api.Errno
	}{
		{api.Edge{From: 1, To: 0, Dir: api.West, Bends: "LR"}, api.OK},
		{api.Edge{From: 2}, api.ErrRange},
		{api.Edge{To: -1}, api.ErrRange},
		{api.Edge{Dir: -1}, api.ErrArg},
		{api.Edge{Bends: "LX"}, api.ErrArg},
		{api.Edge{To: 2, Dir: 4}, api.ErrRange},
		{api.Edge{From: -1, Bends: "X"}, api.ErrRange},
	}
	for _, a := range kinds {
		for _, b := range kinds {
			for _, c := range kinds {
				want := a.err
				if want == api.OK {
					want = b.err
				}
				if want == api.OK {
					want = c.err
				}
				checkCheck(t, 2, []api.Edge{a.edge, b.edge, c.edge}, want)
			}
		}
	}
}

func TestP8_1HowManyThereMayBe(t *testing.T) {
	const most = api.MaxCells
	checkCheck(t, most, nil, api.OK)
	checkCheck(t, most+1, nil, api.ErrMany)
	checkCheck(t, 1, make([]api.Edge, most), api.OK)
	checkCheck(t, 1, make([]api.Edge, most+1), api.ErrMany)
	checkCheck(t, 1, []api.Edge{{Bends: strings.Repeat("L", most)}}, api.OK)
	checkCheck(t, 1, []api.Edge{{Bends: strings.Repeat("R", most+1)}}, api.ErrMany)
	each := slices.Repeat([]api.Edge{{Bends: "R"}}, most)
	checkCheck(t, most, each, api.OK)
	each[most-1].Bends = "LR"
	checkCheck(t, most, each, api.ErrMany)
	each[0].Bends = ""
	checkCheck(t, most, each, api.OK)
	half := strings.Repeat("LR", most/4)
	checkCheck(t, 1, []api.Edge{{Bends: half}, {}, {Bends: half}}, api.OK)
	checkCheck(t, 1, []api.Edge{{Bends: half}, {Bends: half}, {Bends: "L"}}, api.ErrMany)
	checkCheck(t, 1, []api.Edge{{Bends: "L"}, {Bends: half}, {Bends: half}}, api.ErrMany)
}

// Too many are told ahead of all that may be wrong with one edge.
func TestP8_1TooManyAreToldFirst(t *testing.T) {
	const most = api.MaxCells
	wrong := []api.Edge{{From: -1, Dir: 7, Bends: "X"}}
	checkCheck(t, most+1, wrong, api.ErrMany)
	checkCheck(t, 1, slices.Repeat(wrong, most+1), api.ErrMany)
	checkCheck(t, 1, append(slices.Clone(wrong), api.Edge{Bends: strings.Repeat("L", most)}), api.ErrMany)
	checkCheck(t, 1, append(slices.Clone(wrong), api.Edge{Bends: strings.Repeat("L", most-1)}), api.ErrRange)
	checkCheck(t, 1, []api.Edge{{Bends: strings.Repeat("X", most)}}, api.ErrArg)
}

// The edges' bends may share one text, and are far more in all than it is long.
func TestP8_1BendsThatShareTheirText(t *testing.T) {
	long := strings.Repeat("L", 1<<20)
	checkCheck(t, 1, slices.Repeat([]api.Edge{{Bends: long}}, api.MaxCells), api.ErrMany)
}

// What lies behind a list's length isn't looked at.
func TestP8_1WhatLiesBehindTheLengths(t *testing.T) {
	boxes := append(points(2), make([]bool, api.MaxCells)...)[:2]
	edges := []api.Edge{{To: 1}, {From: 5, Dir: 9, Bends: "X"}}[:1]
	s := api.Shape{Boxes: boxes, Edges: edges}
	if got := Check(s); got != api.OK {
		t.Errorf("Check is %d", got)
	}
	if !Equal(s, api.Shape{Boxes: points(2), Edges: []api.Edge{{To: 1}}}) {
		t.Error("what lies behind the lengths makes shapes unlike")
	}
	if want := (api.Edge{From: 5, Dir: 9, Bends: "X"}); edges[:2][1] != want || len(boxes[:cap(boxes)]) <= 2 {
		t.Error("what lies behind the lengths was changed")
	}
}

// Shapes that are unlike each other, those that may not be written among them.
func unlikeShapes() []api.Shape {
	many := make([]api.Edge, api.MaxCells+1)
	last := slices.Clone(many)
	last[api.MaxCells].Bends = "R"
	two := points(2)
	return []api.Shape{
		{},
		{Boxes: []bool{false}},
		{Boxes: []bool{true}},
		{Boxes: two},
		{Boxes: []bool{true, false}},
		{Boxes: []bool{false, true}},
		{Boxes: points(3)},
		{Boxes: []bool{false, false, true}},
		{Edges: []api.Edge{{}}},
		{Boxes: two, Edges: []api.Edge{{}}},
		{Boxes: two, Edges: []api.Edge{{}, {}}},
		{Boxes: two, Edges: []api.Edge{{From: 1}}},
		{Boxes: two, Edges: []api.Edge{{To: 1}}},
		{Boxes: two, Edges: []api.Edge{{Dir: 1}}},
		{Boxes: two, Edges: []api.Edge{{Bends: "L"}}},
		{Boxes: two, Edges: []api.Edge{{Bends: "R"}}},
		{Boxes: two, Edges: []api.Edge{{Bends: "RL"}}},
		{Boxes: two, Edges: []api.Edge{{Bends: "LR"}}},
		{Boxes: two, Edges: []api.Edge{{To: 1}, {From: 1, Dir: 2}}},
		{Boxes: two, Edges: []api.Edge{{From: 1, Dir: 2}, {To: 1}}},
		{Boxes: two, Edges: []api.Edge{{From: -1, To: math.MaxInt, Dir: math.MinInt, Bends: "X\xff"}}},
		{Boxes: two, Edges: []api.Edge{{From: -1, To: math.MaxInt, Dir: math.MinInt, Bends: "X\xfe"}}},
		{Boxes: points(api.MaxCells + 1)},
		{Boxes: points(api.MaxCells + 2)},
		{Edges: many},
		{Edges: last},
	}
}

func TestP8_1EqualTellsShapesApart(t *testing.T) {
	shapes, copies := unlikeShapes(), unlikeShapes()
	for i, a := range shapes {
		for j, b := range copies {
			if got := Equal(a, b); got != (i == j) {
				t.Errorf("Equal of the shapes %d and %d is %v", i, j, got)
			}
		}
	}
}

func TestP8_1EmptyListsAreAlike(t *testing.T) {
	empty := []api.Shape{{}, {Boxes: []bool{}}, {Edges: []api.Edge{}}, {Boxes: []bool{}, Edges: []api.Edge{}}, {Boxes: make([]bool, 0, 5)}}
	for _, a := range empty {
		if Check(a) != api.OK {
			t.Error("a shape without vertices may not be written")
		}
		for _, b := range empty {
			if !Equal(a, b) {
				t.Error("empty lists are unlike")
			}
		}
	}
	a := api.Shape{Boxes: []bool{true}, Edges: []api.Edge{}}
	if !Equal(a, api.Shape{Boxes: []bool{true}}) {
		t.Error("empty lists of edges are unlike")
	}
}

func TestP8_1ShapesAreNotChanged(t *testing.T) {
	copies := unlikeShapes()
	for i, s := range unlikeShapes() {
		Check(s)
		Equal(s, s)
		if !slices.Equal(s.Boxes, copies[i].Boxes) || !slices.Equal(s.Edges, copies[i].Edges) {
			t.Errorf("the shape %d was changed", i)
		}
	}
}
