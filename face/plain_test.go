package face

import (
	"math"
	"strconv"
	"strings"
	"testing"

	"muntin/api"
	"muntin/grid"
)

// ints at which a dart's cell or direction may go wrong.
var ints = []int{math.MinInt, math.MinInt + 1, -4097, -5, -4, -3, -2, -1, 0, 1, 2, 3, 4, 5, 6, 7, api.MaxCells, math.MaxInt - 1, math.MaxInt}

// Where one comes by each direction turned, written out.
var (
	toLeft   = [4]int{api.North, api.West, api.South, api.East}
	toRight  = [4]int{api.South, api.East, api.North, api.West}
	opposite = [4]int{api.West, api.South, api.East, api.North}
)

// loners are so many cells without edges.
func loners(n int) []api.Cell {
	cells := make([]api.Cell, n)
	for i := range cells {
		cells[i] = api.Cell{Next: [4]int{-1, -1, -1, -1}}
	}
	return cells
}

// tie lays an edge between cells, from both ends.
func tie(cells []api.Cell, v, d, w, owner int) {
	cells[v].Next[d], cells[v].Owner[d] = w, owner
	cells[w].Next[opposite[d]], cells[w].Owner[opposite[d]] = v, owner
}

// cellsOf: so many cells with these edges, as "0E5" is one from 0 to the East to 5.
func cellsOf(t *testing.T, n int, edges string) []api.Cell {
	t.Helper()
	cells := loners(n)
	for i, link := range strings.Fields(edges) {
		at := strings.IndexAny(link, "ENWS")
		v, _ := strconv.Atoi(link[:at])
		w, _ := strconv.Atoi(link[at+1:])
		tie(cells, v, strings.Index("ENWS", link[at:at+1]), w, i-2)
	}
	if e := grid.Check(cells); e != api.OK {
		t.Fatalf("%q: %d", edges, e)
	}
	return cells
}

// dartsOf words, as "4W" is that of the cell 4 to the West.
func dartsOf(words string) []Dart {
	var f []Dart
	for _, word := range strings.Fields(words) {
		last := len(word) - 1
		v, _ := strconv.Atoi(word[:last])
		f = append(f, Dart{Cell: v, Dir: strings.Index("ENWS", word[last:])})
	}
	return f
}

// isDart: has the cell a next one in that direction? (Of cells that may be.)
func isDart(cells []api.Cell, d Dart) bool {
	return d.Cell >= 0 && d.Cell < len(cells) && d.Dir >= 0 && d.Dir < 4 && cells[d.Cell].Next[d.Dir] != -1
}

// plainNext tells the dart behind one by the chapter's words.
func plainNext(cells []api.Cell, d Dart) (Dart, int, bool) {
	if grid.Check(cells) != api.OK {
		return Dart{}, 0, false
	}
	return plainBehind(cells, d)
}

// plainBehind is plainNext of cells that may be.
func plainBehind(cells []api.Cell, d Dart) (Dart, int, bool) {
	if !isDart(cells, d) {
		return Dart{}, 0, false
	}
	at := cells[d.Cell].Next[d.Dir]
	if next := (Dart{at, toLeft[d.Dir]}); isDart(cells, next) {
		return next, 1, true
	}
	if next := (Dart{at, d.Dir}); isDart(cells, next) {
		return next, 0, true
	}
	if next := (Dart{at, toRight[d.Dir]}); isDart(cells, next) {
		return next, -1, true
	}
	return Dart{at, opposite[d.Dir]}, -2, true
}

// dartsIn are all darts of cells, in order.
func dartsIn(cells []api.Cell) []Dart {
	var all []Dart
	for v := range cells {
		for d := range 4 {
			if one := (Dart{v, d}); isDart(cells, one) {
				all = append(all, one)
			}
		}
	}
	return all
}

func less(a, b Dart) bool { return a.Cell < b.Cell || a.Cell == b.Cell && a.Dir < b.Dir }

// joints are all ways to join cells with others that are to one side of them: each has one there, or none, and is that of one, or of none.
func joints(n int) [][]int {
	rows := [][]int{{}}
	for v := range n {
		var longer [][]int
		for _, row := range rows {
			for w := -1; w < n; w++ {
				if w != v && (w == -1 || !contains(row, w)) {
					longer = append(longer, append(append([]int{}, row...), w))
				}
			}
		}
		rows = longer
	}
	return rows
}

func contains(row []int, w int) bool {
	for _, one := range row {
		if one == w {
			return true
		}
	}
	return false
}

// eachGrid goes through all cells, so many, that may be.
func eachGrid(n int, tell func([]api.Cell)) {
	all := joints(n)
	for _, east := range all {
		for _, north := range all {
			cells := loners(n)
			for v := range n {
				if east[v] != -1 {
					tie(cells, v, api.East, east[v], v)
				}
				if north[v] != -1 {
					tie(cells, v, api.North, north[v], v)
				}
			}
			tell(cells)
		}
	}
}

// dice are numbers that look like chance, the same ones in each run.
type dice uint64

func (s *dice) below(n int) int {
	*s = *s*6364136223846793005 + 1442695040888963407
	return int(uint64(*s)>>33) % n
}

// plane cells stand in rows, each row above the one before it; of the edges between neighbours so many of ten are left out, by chance.
func plane(s *dice, wide, high, out int) []api.Cell {
	cells := loners(wide * high)
	for v := range cells {
		if v%wide != wide-1 && s.below(10) >= out {
			tie(cells, v, api.East, v+1, s.below(20)-2)
		}
		if v/wide != high-1 && s.below(10) >= out {
			tie(cells, v, api.North, v+wide, s.below(20)-2)
		}
	}
	return cells
}

// wild cells are joined by chance, whether they can be drawn or not.
func wild(s *dice, n, edges int) []api.Cell {
	cells := loners(n)
	for range edges {
		v, d, w := s.below(n), s.below(4), s.below(n)
		if v != w && cells[v].Next[d] == -1 && cells[w].Next[opposite[d]] == -1 {
			tie(cells, v, d, w, s.below(20)-2)
		}
	}
	return cells
}

// bad is a list of cells that may not be, with what layer 10 tells of it.
type bad struct {
	cells []api.Cell
	want  api.Errno
}

// bads are such lists; in each, the first cell's edge to the East is as it should be.
func bads() map[string]bad {
	pair := func(n int) []api.Cell {
		cells := loners(n)
		tie(cells, 0, api.East, 1, 3)
		return cells
	}
	all := map[string]bad{"too many": {pair(api.MaxCells + 1), api.ErrMany}}
	far, self, low := pair(3), pair(3), pair(3)
	far[2].Next[api.North] = 3
	self[2].Next[api.North] = 2
	low[2].Next[api.North] = -2
	all["a next one that is none"] = bad{far, api.ErrRange}
	all["next to itself"] = bad{self, api.ErrRange}
	all["below none"] = bad{low, api.ErrRange}
	oneWay, owners, dummy, noEdge := pair(4), pair(4), pair(4), pair(4)
	oneWay[2].Next[api.North] = 3
	tie(owners, 2, api.North, 3, 5)
	owners[3].Owner[api.South] = 6
	tie(dummy, 2, api.North, 3, -3)
	noEdge[3].Owner[api.South] = 1
	all["not from both ends"] = bad{oneWay, api.ErrJoin}
	all["two owners"] = bad{owners, api.ErrJoin}
	all["an owner below Dummy"] = bad{dummy, api.ErrJoin}
	all["an owner of nothing"] = bad{noEdge, api.ErrJoin}
	both := pair(api.MaxCells + 1)
	both[2].Next[api.North] = 2
	all["too many, and wrong"] = bad{both, api.ErrMany}
	return all
}
