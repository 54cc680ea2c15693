package text

import (
	"math"
	"slices"
	"strings"
	"testing"

	"muntin/api"
)

var (
	wrongDirs  = []int{math.MinInt, math.MinInt + 1, -4, -1, 4, 5, 7, 8, math.MaxInt - 1, math.MaxInt}
	wrongBends = []string{"l", "r", "X", "LX", "XL", "LXR", " ", "L R", "L ", " L", "-", "\x00", "L\x00", "\n", "\xff", "L\xccR", "Ł", "Ｌ", "LR\u0305", "\uFFFD"}
	ends       = []int{math.MinInt, math.MinInt + 1, -1, 0, 1, 2, api.MaxCells, 1 << 40, math.MaxInt - 1, math.MaxInt}
)

// checkBack: what an edge is from its other end; and from there it is itself again.
func checkBack(t *testing.T, e, want api.Edge) {
	t.Helper()
	b, err := Back(e)
	if b != want || err != api.OK {
		t.Errorf("Back of %d %d %d %q is %d %d %d %q, %d", e.From, e.Dir, e.To, head(e.Bends), b.From, b.Dir, b.To, head(b.Bends), err)
	}
	if again, err := Back(b); again != e || err != api.OK {
		t.Errorf("Back of Back of %d %d %d %q is %d %d %d %q, %d", e.From, e.Dir, e.To, head(e.Bends), again.From, again.Dir, again.To, head(again.Bends), err)
	}
}

func checkNoBack(t *testing.T, e api.Edge) {
	t.Helper()
	if b, err := Back(e); b != (api.Edge{}) || err != api.ErrArg {
		t.Errorf("Back of %d %d %d %q is %#v, %d", e.From, e.Dir, e.To, head(e.Bends), b, err)
	}
}

// eachBends goes through all texts of at most n bends.
func eachBends(n int, do func(bends string)) {
	all := []string{""}
	for len(all) > 0 {
		bends := all[0]
		all = all[1:]
		do(bends)
		if len(bends) < n {
			all = append(all, bends+"L", bends+"R")
		}
	}
}

// walk tells the directions of an edge's pieces, one by one.
func walk(dir int, bends string) []int {
	turned := map[byte][4]int{
		'L': {api.North, api.West, api.South, api.East},
		'R': {api.South, api.East, api.North, api.West},
	}
	dirs := []int{dir}
	for i := range len(bends) {
		dir = turned[bends[i]][dir]
		dirs = append(dirs, dir)
	}
	return dirs
}

func TestP9_1BackByHand(t *testing.T) {
	checkBack(t, api.Edge{To: 1, Dir: api.East}, api.Edge{From: 1, Dir: api.West})
	checkBack(t, api.Edge{To: 1, Dir: api.North}, api.Edge{From: 1, Dir: api.South})
	checkBack(t, api.Edge{From: 3, To: 3, Dir: api.West}, api.Edge{From: 3, To: 3, Dir: api.East})
	checkBack(t, api.Edge{From: 1, Dir: api.South}, api.Edge{To: 1, Dir: api.North})
	checkBack(t, api.Edge{To: 1, Dir: api.East, Bends: "R"}, api.Edge{From: 1, Dir: api.North, Bends: "L"})
	checkBack(t, api.Edge{From: 3, To: -1, Dir: api.North, Bends: "LLR"}, api.Edge{From: -1, To: 3, Dir: api.East, Bends: "LRR"})
	checkBack(t, api.Edge{To: 1, Dir: api.East, Bends: "LL"}, api.Edge{From: 1, Dir: api.East, Bends: "RR"})
	checkBack(t, api.Edge{To: 1, Dir: api.South, Bends: "LR"}, api.Edge{From: 1, Dir: api.North, Bends: "LR"})
	checkBack(t, api.Edge{To: 1, Dir: api.West, Bends: "LLLL"}, api.Edge{From: 1, Dir: api.East, Bends: "RRRR"})
	checkBack(t, api.Edge{To: 1, Dir: api.West, Bends: "RLLLL"}, api.Edge{From: 1, Dir: api.South, Bends: "RRRRL"})
}

func TestP9_1Example(t *testing.T) {
	checkBack(t, api.Edge{From: 0, To: 1, Dir: api.East, Bends: "L"}, api.Edge{From: 1, To: 0, Dir: api.South, Bends: "R"})
}

// Who walks back goes along the same pieces, from the last one to the first one, each the contrary way.
func TestP9_1BackGoesTheSameWay(t *testing.T) {
	for dir := range 4 {
		eachBends(10, func(bends string) {
			e := api.Edge{From: 7, To: 4, Dir: dir, Bends: bends}
			b, err := Back(e)
			if err != api.OK || b.From != 4 || b.To != 7 || len(b.Bends) != len(bends) {
				t.Fatalf("Back of %v is %v, %d", e, b, err)
			}
			want := walk(dir, bends)
			slices.Reverse(want)
			for i, d := range want {
				want[i] = [4]int{api.West, api.South, api.East, api.North}[d]
			}
			if got := walk(b.Dir, b.Bends); !slices.Equal(got, want) {
				t.Fatalf("Back of %v goes %v, not %v", e, got, want)
			}
			checkBack(t, e, b)
		})
	}
}

// Whether From and To are vertices of a shape isn't asked.
func TestP9_1BackOfAnyEnds(t *testing.T) {
	for _, from := range ends {
		for _, to := range ends {
			checkBack(t, api.Edge{From: from, To: to, Dir: api.North, Bends: "RRL"}, api.Edge{From: to, To: from, Dir: api.West, Bends: "RLL"})
			checkNoBack(t, api.Edge{From: from, To: to, Dir: 4})
			checkNoBack(t, api.Edge{From: from, To: to, Bends: "LRX"})
		}
	}
}

func TestP9_1BackOfWrongEdges(t *testing.T) {
	for _, d := range wrongDirs {
		checkNoBack(t, api.Edge{Dir: d})
		checkNoBack(t, api.Edge{From: 1, To: 2, Dir: d, Bends: "LR"})
		checkNoBack(t, api.Edge{Dir: d, Bends: "X"})
	}
	for d := range 4 {
		for _, bends := range wrongBends {
			checkNoBack(t, api.Edge{From: 1, To: 2, Dir: d, Bends: bends})
		}
	}
}

// All bytes that stand alone, or among bends.
func TestP9_1OnlyTwoLettersAreBends(t *testing.T) {
	for b := range 256 {
		one := string([]byte{byte(b)})
		if one == "L" || one == "R" {
			continue
		}
		for _, bends := range []string{one, "L" + one, one + "R", "RL" + one + "LR", one + one} {
			checkNoBack(t, api.Edge{To: 1, Bends: bends})
		}
	}
}

// An edge alone may have any number of bends: only a shape's are counted.
func TestP9_1BackOfLongEdges(t *testing.T) {
	for _, n := range []int{api.MaxCells - 1, api.MaxCells, api.MaxCells + 1, api.MaxCells + 2, 1 << 21, 1<<21 + 3} {
		lefts, rights := strings.Repeat("L", n), strings.Repeat("R", n)
		checkBack(t, api.Edge{To: 1, Bends: lefts}, api.Edge{From: 1, Dir: (n + 2) % 4, Bends: rights})
		checkBack(t, api.Edge{To: 1, Bends: lefts + "R" + rights}, api.Edge{From: 1, Dir: api.North, Bends: lefts + "L" + rights})
		checkNoBack(t, api.Edge{To: 1, Bends: lefts + "x"})
		checkNoBack(t, api.Edge{To: 1, Bends: "x" + lefts})
	}
}

// What Back answers is an edge that may be written, if the edge may.
func TestP9_2BackOfShapesEdges(t *testing.T) {
	for seed := range uint64(200) {
		s := made(seed)
		for i, e := range s.Edges {
			b, err := Back(e)
			if err != api.OK {
				t.Fatalf("Back of %v is %d", e, err)
			}
			checkBack(t, e, b)
			s.Edges[i] = b
		}
		checkParsed(t, s)
	}
}
