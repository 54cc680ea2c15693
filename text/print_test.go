package text

import (
	"math"
	"slices"
	"strconv"
	"strings"
	"testing"

	"muntin/api"
	"muntin/parse"
)

// head is so much of a text as one likes to read.
func head(s string) string { return s[:min(len(s), 80)] }

func points(n int) []bool { return make([]bool, n) }

// checkPrint: a shape that has this text.
func checkPrint(t *testing.T, s api.Shape, want string) {
	t.Helper()
	if got, err := Print(s); got != want || err != api.OK {
		t.Errorf("Print of %d vertices and %d edges is %q, %d, not %q", len(s.Boxes), len(s.Edges), head(got), err, head(want))
	}
}

// checkNoPrint: a shape that may not be written, by the error of layer 8.
func checkNoPrint(t *testing.T, s api.Shape, want api.Errno) {
	t.Helper()
	if got, err := Print(s); got != "" || err != want || err != parse.Check(s) {
		t.Errorf("Print of %d vertices and %d edges is %q, %d, not %d", len(s.Boxes), len(s.Edges), head(got), err, want)
	}
}

// checkParsed: a shape whose text is parsed to it again.
func checkParsed(t *testing.T, s api.Shape) {
	t.Helper()
	text, err := Print(s)
	if err != api.OK {
		t.Fatalf("Print of %d vertices and %d edges is %q, %d", len(s.Boxes), len(s.Edges), head(text), err)
	}
	again, line, err := parse.Parse(text)
	if err != api.OK || !parse.Equal(again, s) {
		t.Errorf("%q is parsed to another shape than it was printed of, or is wrong at %d by %d", head(text), line, err)
	}
}

// checkPrinted: a text that is printed as it was parsed, if it can be.
func checkPrinted(t *testing.T, text string) bool {
	t.Helper()
	s, _, err := parse.Parse(text)
	if err != api.OK {
		return false
	}
	checkPrint(t, s, text)
	return true
}

func TestP9_1PrintByHand(t *testing.T) {
	checkPrint(t, api.Shape{}, "shape -\nend\n")
	checkPrint(t, api.Shape{Boxes: []bool{false}}, "shape p\nend\n")
	checkPrint(t, api.Shape{Boxes: []bool{true}}, "shape b\nend\n")
	checkPrint(t, api.Shape{Boxes: []bool{true, false, false, true}}, "shape bppb\nend\n")
	checkPrint(t, api.Shape{Boxes: points(2), Edges: []api.Edge{{To: 1}}}, "shape pp\n0 E 1\nend\n")
	checkPrint(t, api.Shape{Boxes: []bool{false, true}, Edges: []api.Edge{{To: 1}, {From: 1, Dir: api.South, Bends: "RRL"}}}, "shape pb\n0 E 1\n1 S 0 RRL\nend\n")
	checkPrint(t, api.Shape{Boxes: []bool{true}, Edges: []api.Edge{
		{Dir: api.East, Bends: "LLL"}, {Dir: api.North, Bends: "R"}, {Dir: api.West}, {Dir: api.South, Bends: "LRLR"}}},
		"shape b\n0 E 0 LLL\n0 N 0 R\n0 W 0\n0 S 0 LRLR\nend\n")
	checkPrint(t, api.Shape{Boxes: points(12), Edges: []api.Edge{{From: 11, To: 10, Dir: api.South}, {From: 10, To: 9, Dir: api.West, Bends: "R"}, {To: 11}}},
		"shape pppppppppppp\n11 S 10\n10 W 9 R\n0 E 11\nend\n")
}

// Edges stand in the order in which they are handed in, also those that are alike.
func TestP9_1EdgesInTheirOrder(t *testing.T) {
	edges := []api.Edge{{From: 2, To: 1, Dir: api.West}, {From: 0, To: 2}, {From: 2, To: 1, Dir: api.West}, {From: 0, To: 0, Dir: api.North, Bends: "R"}}
	checkPrint(t, api.Shape{Boxes: points(3), Edges: edges}, "shape ppp\n2 W 1\n0 E 2\n2 W 1\n0 N 0 R\nend\n")
	slices.Reverse(edges)
	checkPrint(t, api.Shape{Boxes: points(3), Edges: edges}, "shape ppp\n0 N 0 R\n2 W 1\n0 E 2\n2 W 1\nend\n")
}

func TestP9_1EmptyListsAreAlike(t *testing.T) {
	for _, s := range []api.Shape{{}, {Boxes: []bool{}}, {Edges: []api.Edge{}}, {Boxes: []bool{}, Edges: []api.Edge{}}, {Boxes: make([]bool, 0, 5)}} {
		checkPrint(t, s, "shape -\nend\n")
	}
	checkPrint(t, api.Shape{Boxes: []bool{true}, Edges: []api.Edge{}}, "shape b\nend\n")
}

func TestP9_1ShapesThatMayNotBeWritten(t *testing.T) {
	const most = api.MaxCells
	for _, v := range []int{math.MinInt, -2, -1, 2, 3, most, 1 << 32, 1<<32 + 1, math.MaxInt} {
		checkNoPrint(t, api.Shape{Boxes: points(2), Edges: []api.Edge{{From: v}}}, api.ErrRange)
		checkNoPrint(t, api.Shape{Boxes: points(2), Edges: []api.Edge{{To: v}}}, api.ErrRange)
	}
	for _, d := range wrongDirs {
		checkNoPrint(t, api.Shape{Boxes: points(1), Edges: []api.Edge{{}, {Dir: d}}}, api.ErrArg)
	}
	for _, bends := range wrongBends {
		checkNoPrint(t, api.Shape{Boxes: points(1), Edges: []api.Edge{{Bends: bends}}}, api.ErrArg)
	}
	checkNoPrint(t, api.Shape{Edges: []api.Edge{{}}}, api.ErrRange)
	checkNoPrint(t, api.Shape{Boxes: points(most + 1)}, api.ErrMany)
	checkNoPrint(t, api.Shape{Boxes: points(1), Edges: make([]api.Edge, most+1)}, api.ErrMany)
	checkNoPrint(t, api.Shape{Boxes: points(1), Edges: []api.Edge{{Bends: strings.Repeat("L", most+1)}}}, api.ErrMany)
	checkNoPrint(t, api.Shape{Boxes: points(1), Edges: []api.Edge{{Bends: strings.Repeat("L", most)}, {}, {Bends: "R"}}}, api.ErrMany)
}

// Of more than one error the one that layer 8 names first is told.
func TestP9_1TheFirstErrorIsTold(t *testing.T) {
	arg, places := api.Edge{Dir: 4}, api.Edge{To: 5, Bends: "X"}
	checkNoPrint(t, api.Shape{Boxes: points(1), Edges: []api.Edge{{}, arg, places}}, api.ErrArg)
	checkNoPrint(t, api.Shape{Boxes: points(1), Edges: []api.Edge{{}, places, arg}}, api.ErrRange)
	checkNoPrint(t, api.Shape{Boxes: points(api.MaxCells + 1), Edges: []api.Edge{arg, places}}, api.ErrMany)
}

func TestP9_1WhatLiesBehindTheLengths(t *testing.T) {
	boxes := []bool{false, true, true, true}[:2]
	edges := []api.Edge{{To: 1}, {From: 5, Dir: 9, Bends: "X"}}[:1]
	checkPrint(t, api.Shape{Boxes: boxes, Edges: edges}, "shape pb\n0 E 1\nend\n")
	if want := (api.Edge{From: 5, Dir: 9, Bends: "X"}); edges[:2][1] != want || !slices.Equal(boxes[:4], []bool{false, true, true, true}) {
		t.Error("what lies behind the lengths was changed")
	}
}

func TestP9_1ShapesAreNotChanged(t *testing.T) {
	s := api.Shape{Boxes: []bool{false, true}, Edges: []api.Edge{{To: 1, Bends: "LR"}, {From: 1, Dir: api.South}}}
	copied := api.Shape{Boxes: slices.Clone(s.Boxes), Edges: slices.Clone(s.Edges)}
	first, _ := Print(s)
	if again, _ := Print(s); !parse.Equal(s, copied) || again != first {
		t.Errorf("Print changed its shape: %v, %q, %q", s, first, again)
	}
}

// Which vertices are boxes comes to the text letter by letter.
func TestP9_2AllVerticesOfFew(t *testing.T) {
	for n := range 9 {
		for boxes := range 1 << n {
			s, word := api.Shape{}, ""
			for i := range n {
				s.Boxes = append(s.Boxes, boxes>>i&1 == 1)
				word += "pb"[boxes>>i&1 : boxes>>i&1+1]
			}
			checkParsed(t, s)
			if n > 0 {
				checkPrint(t, s, "shape "+word+"\nend\n")
			}
		}
	}
}

// Each edge of few vertices, alone, and among others.
func TestP9_2AllEdgesOfFewVertices(t *testing.T) {
	for word, boxes := range map[string][]bool{"p": {false}, "b": {true}, "bp": {true, false}, "pbb": {false, true, true}} {
		for place := range len(boxes) * len(boxes) * 4 {
			from, to, dir := place/4%len(boxes), place/4/len(boxes), place%4
			line := strconv.Itoa(from) + " " + "ENWS"[dir:dir+1] + " " + strconv.Itoa(to)
			for _, bent := range []string{"", " L", " R", " LL", " LR", " RL", " RR", " LRRLLLR"} {
				e := api.Edge{From: from, To: to, Dir: dir, Bends: strings.TrimSpace(bent)}
				checkPrint(t, api.Shape{Boxes: boxes, Edges: []api.Edge{e}}, "shape "+word+"\n"+line+bent+"\nend\n")
				checkParsed(t, api.Shape{Boxes: boxes, Edges: []api.Edge{{Bends: "R"}, e, e, {Dir: api.West}}})
			}
		}
	}
}

// made is a shape that a plain row of numbers makes, always the same one of the same seed.
func made(seed uint64) api.Shape {
	next := func(n int) int {
		seed = seed*6364136223846793005 + 1442695040888963407
		return int(seed >> 33 % uint64(n))
	}
	s := api.Shape{Boxes: points(1 + next(200))}
	for i := range s.Boxes {
		s.Boxes[i] = next(2) == 0
	}
	for range next(60) {
		e := api.Edge{From: next(len(s.Boxes)), To: next(len(s.Boxes)), Dir: next(4)}
		for range next(9) {
			e.Bends += "LR"[next(2):][:1]
		}
		s.Edges = append(s.Edges, e)
	}
	return s
}

func TestP9_2ManyShapes(t *testing.T) {
	for seed := range uint64(500) {
		s := made(seed)
		checkParsed(t, s)
		text, _ := Print(s)
		if !checkPrinted(t, text) {
			t.Errorf("%q isn't parsed", head(text))
		}
	}
}

// The greatest shapes that may be written.
func TestP9_2TheGreatestShapes(t *testing.T) {
	const most = api.MaxCells
	last := api.Edge{From: most - 1, To: most - 1, Dir: api.South}
	checkPrint(t, api.Shape{Boxes: points(most)}, "shape "+strings.Repeat("p", most)+"\nend\n")
	checkPrint(t, api.Shape{Boxes: slices.Repeat([]bool{true}, most), Edges: slices.Repeat([]api.Edge{last}, most)},
		"shape "+strings.Repeat("b", most)+"\n"+strings.Repeat("4095 S 4095\n", most)+"end\n")
	checkPrint(t, api.Shape{Boxes: points(1), Edges: []api.Edge{{}, {Bends: strings.Repeat("LRR", most/3)}}},
		"shape p\n0 E 0\n0 E 0 "+strings.Repeat("LRR", most/3)+"\nend\n")
	last.Bends = "L"
	longest := api.Shape{Boxes: points(most), Edges: slices.Repeat([]api.Edge{last}, most)}
	checkParsed(t, longest)
	if text, _ := Print(longest); len(text) > api.MaxText {
		t.Errorf("the longest text has %d bytes", len(text))
	}
	for v := range most {
		longest.Edges[v] = api.Edge{From: v, To: most - 1 - v, Dir: v % 4}
	}
	checkParsed(t, longest)
}

// All short texts of pieces: those that are parsed are printed as they were.
func TestP9_2AllShortTextsOfPieces(t *testing.T) {
	pieces := []string{"shape p", "shape pb\n", "\n", "0 E 1\n", "1 S 0", " L", "R"}
	parsed := 0
	var each func(text string, more int)
	each = func(text string, more int) {
		if checkPrinted(t, text+"end\n") {
			parsed++
		}
		if more == 0 {
			return
		}
		for _, p := range pieces {
			each(text+p, more-1)
		}
	}
	each("", 4)
	each("shape b", 3)
	each("shape -\n", 3)
	each("shape pp\n", 7)
	if parsed < 100 {
		t.Errorf("only %d texts were parsed", parsed)
	}
}

// Single bytes of right texts changed, left out, and put in: what is parsed still is printed as it is now.
func TestP9_2SingleBytesChanged(t *testing.T) {
	for _, text := range []string{"shape -\nend\n", "shape bpb\n0 E 1 L\n2 S 2 RRR\n1 W 0\nend\n", "shape ppppppppppp\n10 N 9\n0 W 10 LRL\nend\n"} {
		if !checkPrinted(t, text) {
			t.Errorf("%q isn't parsed", text)
		}
		for i := range len(text) {
			checkPrinted(t, text[:i]+text[i+1:])
			for b := range 256 {
				one := string([]byte{byte(b)})
				checkPrinted(t, text[:i]+one+text[i+1:])
				checkPrinted(t, text[:i]+one+text[i:])
			}
		}
	}
}
