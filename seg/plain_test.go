package seg

import (
	"math"
	"slices"
	"strconv"
	"strings"
	"testing"

	"muntin/api"
	"muntin/grid"
)

// ints at which a chain's place may go wrong.
var ints = []int{math.MinInt, math.MinInt + 1, -4097, -2, -1, 0, 1, 2, 3, 4, 5, api.MaxCells - 1, api.MaxCells, math.MaxInt - 1, math.MaxInt}

// opposite of each direction, written out.
var opposite = [4]int{api.West, api.South, api.East, api.North}

// loners are so many cells without edges.
func loners(n int) []api.Cell {
	cells := make([]api.Cell, n)
	for i := range cells {
		cells[i] = api.Cell{Next: [4]int{-1, -1, -1, -1}}
	}
	return cells
}

// tie lays an edge between cells, from both ends.
func tie(cells []api.Cell, v, d, w, owner int) {
	cells[v].Next[d], cells[v].Owner[d] = w, owner
	cells[w].Next[opposite[d]], cells[w].Owner[opposite[d]] = v, owner
}

// cellsOf: so many cells with these edges, as "0E5" is one from 0 to the East to 5.
func cellsOf(t *testing.T, n int, edges string) []api.Cell {
	t.Helper()
	cells := loners(n)
	for i, link := range strings.Fields(edges) {
		at := strings.IndexAny(link, "ENWS")
		v, _ := strconv.Atoi(link[:at])
		w, _ := strconv.Atoi(link[at+1:])
		tie(cells, v, strings.Index("ENWS", link[at:at+1]), w, i-2)
	}
	if e := grid.Check(cells); e != api.OK {
		t.Fatalf("%q: %d", edges, e)
	}
	return cells
}

// straight cells, each next to the one ahead of it in a direction; round, if the first one is next to the last one, too.
func straight(names []int, d int, round bool) []api.Cell {
	cells := loners(len(names))
	for i, v := range names {
		if i+1 < len(names) || round {
			tie(cells, v, d, names[(i+1)%len(names)], 0)
		}
	}
	return cells
}

// plainChains are those of one direction, told by where one comes going back from each cell; none, if one comes nowhere.
func plainChains(cells []api.Cell, d int) ([]int, [][]int, bool) {
	// Of each cell: which one is the first one of its chain, and how many steps it is from there.
	begin, steps := make([]int, len(cells)), make([]int, len(cells))
	least := map[int]int{}
	for v := range cells {
		at := v
		for ; cells[at].Next[opposite[d]] != -1; at = cells[at].Next[opposite[d]] {
			if steps[v]++; steps[v] > len(cells) {
				return nil, nil, false
			}
		}
		begin[v] = at
		if was, ok := least[at]; !ok || v < was {
			least[at] = v
		}
	}
	var leasts []int
	for _, v := range least {
		leasts = append(leasts, v)
	}
	slices.Sort(leasts)
	places, all := make([]int, len(cells)), make([][]int, len(leasts))
	for v := range cells {
		places[v] = slices.Index(leasts, least[begin[v]])
		all[places[v]] = append(all[places[v]], v)
	}
	for _, chain := range all {
		slices.SortFunc(chain, func(v, w int) int { return steps[v] - steps[w] })
	}
	return places, all, true
}

// plainOf tells of cells that may be what the chapter's words say.
func plainOf(cells []api.Cell) (Chains, api.Errno) {
	x, vert, ok := plainChains(cells, api.North)
	y, horz, too := plainChains(cells, api.East)
	if !ok || !too {
		return Chains{}, api.ErrTurn
	}
	return Chains{X: x, Y: y, Vert: vert, Horz: horz}, api.OK
}

func same(c, d Chains) bool {
	return slices.Equal(c.X, d.X) && slices.Equal(c.Y, d.Y) &&
		slices.EqualFunc(c.Vert, d.Vert, slices.Equal) && slices.EqualFunc(c.Horz, d.Horz, slices.Equal)
}

func isNothing(c Chains) bool {
	return len(c.X) == 0 && len(c.Y) == 0 && len(c.Vert) == 0 && len(c.Horz) == 0
}

// kept is a copy that shares nothing with the chains.
func kept(c Chains) Chains {
	c.X, c.Y, c.Vert, c.Horz = slices.Clone(c.X), slices.Clone(c.Y), slices.Clone(c.Vert), slices.Clone(c.Horz)
	for _, all := range [][][]int{c.Vert, c.Horz} {
		for i := range all {
			all[i] = slices.Clone(all[i])
		}
	}
	return c
}

// held holds Of, of cells that may be, to the chapter's words, and the cells to what they were.
func held(t *testing.T, cells []api.Cell) (Chains, api.Errno) {
	t.Helper()
	was := slices.Clone(cells)
	want, wantErr := plainOf(cells)
	c, err := Of(cells)
	if !same(c, want) || err != wantErr {
		t.Fatalf("Of(%v) = %v, %d, not %v, %d", cells, c, err, want, wantErr)
	}
	if !slices.Equal(cells, was) {
		t.Fatalf("%v became %v", was, cells)
	}
	if err == api.OK {
		eachOnce(t, c, len(cells))
	}
	return c, err
}

// eachOnce holds chains to P16.3.
func eachOnce(t *testing.T, c Chains, cells int) {
	t.Helper()
	for _, all := range [][][]int{c.Vert, c.Horz} {
		met := slices.Concat(all...)
		slices.Sort(met)
		if !slices.Equal(met, counted(cells)) {
			t.Fatalf("of %d cells there are %v in %v", cells, met, all)
		}
	}
}

// kindOf chains: those that are vertical, or not.
func kindOf(c Chains, vertical bool) [][]int {
	if vertical {
		return c.Vert
	}
	return c.Horz
}

// placeOf a cell: of which chain it is; -1, if of none.
func placeOf(all [][]int, v int) int {
	return slices.IndexFunc(all, func(chain []int) bool { return slices.Contains(chain, v) })
}

// chainsHeld holds Span and Meet, of all chains and of some that there aren't, to the chapter's words.
func chainsHeld(t *testing.T, c Chains) {
	t.Helper()
	was := kept(c)
	for _, vertical := range []bool{false, true} {
		for i := -1; i <= len(kindOf(c, vertical)); i++ {
			from, to := plainSpan(c, vertical, i)
			if a, b := c.Span(vertical, i); a != from || b != to {
				t.Fatalf("%v: Span(%v, %d) = %d, %d, not %d, %d", c, vertical, i, a, b, from, to)
			}
			for _, other := range []bool{false, true} {
				for k := -1; k <= len(kindOf(c, other)); k++ {
					if want := plainMeet(c, vertical, i, other, k); c.Meet(vertical, i, other, k) != want {
						t.Fatalf("%v: Meet(%v, %d, %v, %d) isn't %v", c, vertical, i, other, k, want)
					}
				}
			}
		}
	}
	if !same(c, was) {
		t.Fatalf("%v became %v", was, c)
	}
}

// plainSpan is found by the chains' cells alone.
func plainSpan(c Chains, vertical bool, i int) (int, int) {
	all := kindOf(c, vertical)
	if i < 0 || i >= len(all) {
		return 0, 0
	}
	across := kindOf(c, !vertical)
	return placeOf(across, all[i][0]), placeOf(across, all[i][len(all[i])-1])
}

// plainMeet is found by the chains' cells alone.
func plainMeet(c Chains, vertical bool, i int, other bool, k int) bool {
	these, those := kindOf(c, vertical), kindOf(c, other)
	if i < 0 || i >= len(these) || k < 0 || k >= len(those) {
		return false
	}
	return slices.ContainsFunc(these[i], func(v int) bool { return slices.Contains(those[k], v) })
}

// joints are all ways to join cells with others that are to one side of them: each has one there, or none, and is that of one, or of none.
func joints(n int) [][]int {
	rows := [][]int{{}}
	for v := range n {
		var longer [][]int
		for _, row := range rows {
			for w := -1; w < n; w++ {
				if w != v && (w == -1 || !slices.Contains(row, w)) {
					longer = append(longer, append(slices.Clone(row), w))
				}
			}
		}
		rows = longer
	}
	return rows
}

// eachGrid goes through all cells, so many, that may be.
func eachGrid(n int, tell func([]api.Cell)) {
	all := joints(n)
	for _, east := range all {
		for _, north := range all {
			cells := loners(n)
			for v := range n {
				if east[v] != -1 {
					tie(cells, v, api.East, east[v], v)
				}
				if north[v] != -1 {
					tie(cells, v, api.North, north[v], v)
				}
			}
			tell(cells)
		}
	}
}

// dice are numbers that look like chance, the same ones in each run.
type dice uint64

func (s *dice) below(n int) int {
	*s = *s*6364136223846793005 + 1442695040888963407
	return int(uint64(*s)>>33) % n
}

// mixed are the numbers below n, each once, in any order.
func (s *dice) mixed(n int) []int {
	all := make([]int, n)
	for i := range all {
		j := s.below(i + 1)
		all[i] = all[j]
		all[j] = i
	}
	return all
}

// counted are the numbers below n, in their order.
func counted(n int) []int {
	all := make([]int, n)
	for i := range all {
		all[i] = i
	}
	return all
}

// plane cells stand in rows, each row above the one before it; of the edges between neighbours so many of ten are left out, by chance.
func plane(s *dice, names []int, wide, out int) []api.Cell {
	cells := loners(len(names))
	for i, v := range names {
		if i%wide != wide-1 && i+1 < len(names) && s.below(10) >= out {
			tie(cells, v, api.East, names[i+1], 0)
		}
		if i+wide < len(names) && s.below(10) >= out {
			tie(cells, v, api.North, names[i+wide], 0)
		}
	}
	return cells
}

// wild cells are joined by chance, whether they can be drawn or not; some of them go round.
func wild(s *dice, n, edges int) []api.Cell {
	cells := loners(n)
	for range edges {
		v, d, w := s.below(n), s.below(4), s.below(n)
		if v != w && cells[v].Next[d] == -1 && cells[w].Next[opposite[d]] == -1 {
			tie(cells, v, d, w, s.below(20)-2)
		}
	}
	return cells
}

// rows of cells by chance, in each direction of their own: no chain goes round, but they can hardly be drawn.
func rows(s *dice, n int) []api.Cell {
	cells := loners(n)
	for _, d := range []int{api.East, api.North} {
		names := s.mixed(n)
		for i := 1; i < n; i++ {
			if s.below(3) > 0 {
				tie(cells, names[i-1], d, names[i], s.below(20)-2)
			}
		}
	}
	return cells
}

// bad is a list of cells that may not be, with what layer 10 tells of it.
type bad struct {
	cells []api.Cell
	want  api.Errno
}

// bads are such lists; in the last five one would also come back going straight on.
func bads(t *testing.T) map[string]bad {
	t.Helper()
	square := func(spoil func(c []api.Cell)) []api.Cell {
		cells := cellsOf(t, 4, "0E1 1N2 2W3 3S0")
		spoil(cells)
		return cells
	}
	round := func(spoil func(c []api.Cell)) []api.Cell {
		cells := cellsOf(t, 4, "0E1 1E2 2E0")
		spoil(cells)
		return cells
	}
	return map[string]bad{
		"too many":                {straight(counted(api.MaxCells+1), api.East, false), api.ErrMany},
		"a next one that is none": {square(func(c []api.Cell) { c[1].Next[api.East] = 4 }), api.ErrRange},
		"next to itself":          {square(func(c []api.Cell) { c[1].Next[api.East] = 1 }), api.ErrRange},
		"below none":              {square(func(c []api.Cell) { c[1].Next[api.East] = -2 }), api.ErrRange},
		"the least int":           {square(func(c []api.Cell) { c[2].Next[api.North] = math.MinInt }), api.ErrRange},
		"the greatest int":        {square(func(c []api.Cell) { c[2].Next[api.North] = math.MaxInt }), api.ErrRange},
		"not from both ends":      {square(func(c []api.Cell) { c[1].Next[api.East] = 3 }), api.ErrJoin},
		"two owners":              {square(func(c []api.Cell) { c[3].Owner[api.South] = 9 }), api.ErrJoin},
		"an owner below Dummy":    {square(func(c []api.Cell) { tie(c, 3, api.South, 0, -3) }), api.ErrJoin},
		"an owner of nothing":     {square(func(c []api.Cell) { c[3].Owner[api.West] = 1 }), api.ErrJoin},
		"a cell of zeros":         {[]api.Cell{{}}, api.ErrRange},
		"next to itself all over": {straight([]int{0}, api.East, true), api.ErrRange},
		"too many, and round":     {straight(counted(api.MaxCells+1), api.North, true), api.ErrMany},
		"round, and out of range": {round(func(c []api.Cell) { c[3].Next[api.South] = 4 }), api.ErrRange},
		"round, and ill joined":   {round(func(c []api.Cell) { c[3].Next[api.North] = 0 }), api.ErrJoin},
		"round, with two owners":  {round(func(c []api.Cell) { c[2].Owner[api.East] = 7 }), api.ErrJoin},
	}
}
