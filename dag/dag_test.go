package dag

import (
	"cmp"
	"math"
	"slices"
	"testing"

	"muntin/api"
)

// arc of the weight 1.
func arc(from, to int) api.Arc { return api.Arc{From: from, To: to, Weight: 1} }

func weighed(from, to, weight int) api.Arc { return api.Arc{From: from, To: to, Weight: weight} }

// chances is a row of numbers that look like chance, the same ones each time.
type chances uint64

func (c *chances) below(n int) int {
	*c = *c*6364136223846793005 + 1442695040888963407
	return int(uint64(*c)>>33) % n
}

// shuffled nodes of a graph.
func (c *chances) shuffled(n int) []int {
	all := make([]int, n)
	for i := range all {
		all[i] = i
	}
	for i := n - 1; i > 0; i-- {
		j := c.below(i + 1)
		all[i], all[j] = all[j], all[i]
	}
	return all
}

// dag of n nodes and m arcs: all of them go on in some order of the nodes.
func (c *chances) dag(n, m int) []api.Arc {
	line := c.shuffled(n)
	var arcs []api.Arc
	for range m {
		i, j := c.below(n), c.below(n)
		if i > j {
			i, j = j, i
		}
		if i < j {
			arcs = append(arcs, weighed(line[i], line[j], c.below(5)))
		}
	}
	return arcs
}

// checkGraph holds Check and Order against what they are to tell.
func checkGraph(t *testing.T, n int, arcs []api.Arc, want []int, err api.Errno) {
	t.Helper()
	given := slices.Clone(arcs)
	got, e := Order(n, arcs)
	if !slices.Equal(got, want) || e != err {
		t.Errorf("Order(%d, %v) is %v, %d, not %v, %d", n, short(arcs), short(got), e, short(want), err)
	}
	if e := Check(n, arcs); e != err {
		t.Errorf("Check(%d, %v) is %d, not %d", n, short(arcs), e, err)
	}
	if !slices.Equal(arcs, given) {
		t.Errorf("of %d nodes: the arcs %v are changed", n, short(given))
	}
}

// short is so much of a list as one likes to read.
func short[T any](all []T) []T { return all[:min(len(all), 20)] }

func checkCost(t *testing.T, n int, arcs []api.Arc, x []int, want int, err api.Errno) {
	t.Helper()
	givenArcs, givenX := slices.Clone(arcs), slices.Clone(x)
	if got, e := Cost(n, arcs, x); got != want || e != err {
		t.Errorf("Cost(%d, %v, %v) is %d, %d, not %d, %d", n, short(arcs), short(x), got, e, want, err)
	}
	if !slices.Equal(arcs, givenArcs) || !slices.Equal(x, givenX) {
		t.Errorf("Cost(%d, %v, %v) changed what it was given", n, short(givenArcs), short(givenX))
	}
}

func checkRanks(t *testing.T, x []int, want ...int) {
	t.Helper()
	given := slices.Clone(x)
	if got := Ranks(x); !slices.Equal(got, want) {
		t.Errorf("Ranks(%v) is %v, not %v", short(x), short(got), short(want))
	}
	if !slices.Equal(x, given) {
		t.Errorf("Ranks changed %v", short(given))
	}
}

func TestP3_1Example(t *testing.T) {
	checkGraph(t, 3, []api.Arc{arc(2, 0), arc(2, 1)}, []int{2, 0, 1}, api.OK)
}

func TestP3_1OrdersByHand(t *testing.T) {
	for _, x := range []struct {
		n    int
		arcs []api.Arc
		want []int
	}{
		{0, nil, nil},
		{0, []api.Arc{}, nil},
		{1, nil, []int{0}},
		{3, nil, []int{0, 1, 2}},
		{2, []api.Arc{arc(0, 1)}, []int{0, 1}},
		{2, []api.Arc{arc(1, 0)}, []int{1, 0}},
		{3, []api.Arc{arc(0, 1), arc(1, 2), arc(0, 2)}, []int{0, 1, 2}},
		{3, []api.Arc{arc(2, 1), arc(1, 0), arc(2, 0)}, []int{2, 1, 0}},
		// A node that comes free late is told ahead of greater ones that waited.
		{4, []api.Arc{arc(1, 0)}, []int{1, 0, 2, 3}},
		{5, []api.Arc{arc(2, 0), arc(3, 1)}, []int{2, 0, 3, 1, 4}},
		// It waits for all that lead to it, not for the first one alone.
		{4, []api.Arc{arc(1, 0), arc(3, 0)}, []int{1, 2, 3, 0}},
		// It is not the least node that is to come early: 0 is behind 3.
		{4, []api.Arc{arc(3, 0)}, []int{1, 2, 3, 0}},
	} {
		checkGraph(t, x.n, x.arcs, x.want, api.OK)
	}
}

func TestP3_1SeveralArcsOfTheSameEnds(t *testing.T) {
	checkGraph(t, 3, []api.Arc{weighed(2, 0, 1), weighed(1, 0, 3), weighed(2, 0, 1), weighed(2, 0, 2)}, []int{1, 2, 0}, api.OK)
	checkGraph(t, 2, []api.Arc{arc(1, 0), arc(1, 0), arc(0, 1)}, nil, api.ErrCycle)
}

func TestP3_1WeightsHaveNoSayInTheOrder(t *testing.T) {
	for _, w := range []int{0, 1, api.MaxValue} {
		checkGraph(t, 3, []api.Arc{weighed(2, 0, w), weighed(2, 1, api.MaxValue-w)}, []int{2, 0, 1}, api.OK)
		checkGraph(t, 2, []api.Arc{weighed(1, 0, w), weighed(0, 1, w)}, nil, api.ErrCycle)
	}
}

func TestP3_1Cycles(t *testing.T) {
	for _, x := range []struct {
		n    int
		arcs []api.Arc
	}{
		{1, []api.Arc{arc(0, 0)}},
		{3, []api.Arc{arc(0, 1), arc(2, 2)}},
		{2, []api.Arc{arc(0, 1), arc(1, 0)}},
		{3, []api.Arc{arc(0, 1), arc(1, 2), arc(2, 0)}},
		{5, []api.Arc{arc(0, 1), arc(1, 2), arc(2, 3), arc(3, 1), arc(3, 4)}},
		{5, []api.Arc{arc(0, 1), arc(1, 4), arc(3, 2), arc(2, 3)}},
	} {
		checkGraph(t, x.n, x.arcs, nil, api.ErrCycle)
	}
}

// orders are all rows of the nodes, in order.
func orders(n int) [][]int {
	if n == 0 {
		return [][]int{nil}
	}
	var all [][]int
	for _, less := range orders(n - 1) {
		for i := range n {
			all = append(all, slices.Insert(slices.Clone(less), i, n-1))
		}
	}
	slices.SortFunc(all, slices.Compare[[]int])
	return all
}

// goesOn: does each arc lead from a node to one behind it?
func goesOn(order []int, arcs []api.Arc) bool {
	place := make([]int, len(order))
	for i, v := range order {
		place[v] = i
	}
	return !slices.ContainsFunc(arcs, func(a api.Arc) bool { return place[a.From] >= place[a.To] })
}

// Where the least that could come next always comes next, no row of the nodes that goes on is ahead of that one.
func TestP3_1AllGraphsOfFewNodes(t *testing.T) {
	for n := range 5 {
		all := orders(n)
		for set := range 1 << (n * n) {
			var arcs []api.Arc
			for i := range n * n {
				if set>>i&1 == 1 {
					arcs = append(arcs, arc(i/n, i%n))
				}
			}
			i := slices.IndexFunc(all, func(order []int) bool { return goesOn(order, arcs) })
			if i < 0 {
				checkGraph(t, n, arcs, nil, api.ErrCycle)
			} else {
				checkGraph(t, n, arcs, all[i], api.OK)
			}
			if t.Failed() {
				return
			}
		}
	}
}

// plainOrder looks, step by step, for the least node that could come next; nothing, if not all come.
func plainOrder(n int, arcs []api.Arc) []int {
	order, come := []int{}, make([]bool, n)
	for range n {
		next := -1
		for v := n - 1; v >= 0; v-- {
			waits := slices.ContainsFunc(arcs, func(a api.Arc) bool { return a.To == v && !come[a.From] })
			if !come[v] && !waits {
				next = v
			}
		}
		if next < 0 {
			return nil
		}
		come[next] = true
		order = append(order, next)
	}
	return order
}

func TestP3_1GraphsOfMoreNodes(t *testing.T) {
	c := chances(31)
	cycles := 0
	for range 400 {
		n := 1 + c.below(25)
		arcs := c.dag(n, c.below(3*n))
		checkGraph(t, n, arcs, plainOrder(n, arcs), api.OK)
		// One arc more, whichever, may close a way.
		arcs = slices.Insert(arcs, c.below(len(arcs)+1), arc(c.below(n), c.below(n)))
		want, err := plainOrder(n, arcs), api.OK
		if want == nil {
			err = api.ErrCycle
			cycles++
		}
		checkGraph(t, n, arcs, want, err)
	}
	if cycles < 50 || cycles > 350 {
		t.Errorf("%d of 400 graphs had a cycle: too few, or too many, to tell", cycles)
	}
}

func TestP3_1HowManyNodesThereMayBe(t *testing.T) {
	all := make([]int, api.MaxNodes)
	for i := range all {
		all[i] = i
	}
	checkGraph(t, api.MaxNodes, nil, all, api.OK)
	checkGraph(t, api.MaxNodes, []api.Arc{arc(0, api.MaxNodes-1)}, all, api.OK)
	for _, n := range []int{-1, -2, api.MaxNodes + 1, math.MinInt, math.MaxInt} {
		checkGraph(t, n, nil, nil, api.ErrArg)
		checkGraph(t, n, []api.Arc{arc(0, 1)}, nil, api.ErrArg)
	}
}

func TestP3_1HowManyArcsThereMayBe(t *testing.T) {
	arcs := make([]api.Arc, 4*api.MaxNodes+1)
	for i := range arcs {
		arcs[i] = arc(1, 0)
	}
	checkGraph(t, 2, arcs[:4*api.MaxNodes], []int{1, 0}, api.OK)
	checkGraph(t, 2, arcs, nil, api.ErrArg)
	// Too many are ahead of a cycle.
	arcs[0] = arc(0, 1)
	checkGraph(t, 2, arcs[:4*api.MaxNodes], nil, api.ErrCycle)
	checkGraph(t, 2, arcs, nil, api.ErrArg)
}

func TestP3_1LongestWays(t *testing.T) {
	// From the greatest node down to the least one, and then back to it.
	var arcs []api.Arc
	var want []int
	for v := api.MaxNodes - 1; v > 0; v-- {
		arcs = append(arcs, arc(v, v-1))
		want = append(want, v)
	}
	want = append(want, 0)
	checkGraph(t, api.MaxNodes, arcs, want, api.OK)
	arcs = append(arcs, arc(0, api.MaxNodes-1))
	checkGraph(t, api.MaxNodes, arcs, nil, api.ErrCycle)
}

// notArcs are arcs that none of a graph of n nodes may be.
func notArcs(n int) []api.Arc {
	var all []api.Arc
	for _, v := range []int{-1, -2, n, n + 1, math.MinInt, math.MaxInt} {
		all = append(all, arc(v, n-1), arc(0, v), arc(v, v))
	}
	for _, w := range []int{-1, api.MaxValue + 1, math.MinInt, math.MaxInt} {
		all = append(all, weighed(0, n-1, w))
	}
	return all
}

func TestP3_1ArcsThatMayNotBe(t *testing.T) {
	good := []api.Arc{arc(0, 1), weighed(1, 2, 0), weighed(0, 3, api.MaxValue)}
	checkGraph(t, 4, good, []int{0, 1, 2, 3}, api.OK)
	for _, a := range notArcs(4) {
		for i := range len(good) + 1 {
			checkGraph(t, 4, slices.Insert(slices.Clone(good), i, a), nil, api.ErrArg)
		}
		// What may not be is told ahead of a cycle, wherever it stands.
		checkGraph(t, 4, []api.Arc{arc(1, 1), a}, nil, api.ErrArg)
		checkGraph(t, 4, []api.Arc{a, arc(1, 1)}, nil, api.ErrArg)
	}
	// Without nodes none is an arc's end.
	checkGraph(t, 0, []api.Arc{arc(0, 0)}, nil, api.ErrArg)
	checkGraph(t, 1, []api.Arc{arc(0, 1)}, nil, api.ErrArg)
}

func TestP3_1WhatLiesBehindTheArcsIsNotRead(t *testing.T) {
	arcs := []api.Arc{arc(1, 0), arc(0, 1), arc(7, 7)}
	checkGraph(t, 2, arcs[:1], []int{1, 0}, api.OK)
	checkGraph(t, 2, arcs[:2], nil, api.ErrCycle)
	checkGraph(t, 2, arcs, nil, api.ErrArg)
}

func TestP3_1OrdersAreNewMemory(t *testing.T) {
	arcs := []api.Arc{arc(2, 0)}
	first, _ := Order(3, arcs)
	second, _ := Order(3, arcs)
	clear(first)
	if !slices.Equal(second, []int{1, 2, 0}) {
		t.Errorf("an order was changed by way of another one: %v", second)
	}
	checkGraph(t, 3, arcs, []int{1, 2, 0}, api.OK)
}

func TestP3_2CostsByHand(t *testing.T) {
	arcs := []api.Arc{weighed(0, 1, 3), weighed(1, 2, 1), weighed(0, 2, 2)}
	for _, x := range []struct {
		x    []int
		want int
	}{
		{[]int{0, 1, 2}, 8},
		{[]int{-5, -4, -3}, 8},
		{[]int{0, 2, 3}, 13},
		{[]int{0, 1, 3}, 11},
		{[]int{-api.MaxValue, 0, api.MaxValue}, 8 * api.MaxValue},
	} {
		checkCost(t, 3, arcs, x.x, x.want, api.OK)
	}
}

func TestP3_2CostOfNothing(t *testing.T) {
	checkCost(t, 0, nil, nil, 0, api.OK)
	checkCost(t, 0, []api.Arc{}, []int{}, 0, api.OK)
	checkCost(t, 3, nil, []int{5, 5, -9}, 0, api.OK)
	checkCost(t, 2, []api.Arc{weighed(0, 1, 0)}, []int{0, 9}, 0, api.OK)
}

func TestP3_2CostOfArcsOfTheSameEnds(t *testing.T) {
	checkCost(t, 2, []api.Arc{weighed(1, 0, 2), weighed(1, 0, 2), weighed(1, 0, 5)}, []int{4, 1}, 27, api.OK)
}

func TestP3_2GreatestCost(t *testing.T) {
	arcs := make([]api.Arc, 4*api.MaxNodes)
	for i := range arcs {
		arcs[i] = weighed(0, 1, api.MaxValue)
	}
	x := make([]int, api.MaxNodes)
	x[0], x[1] = -api.MaxValue, api.MaxValue
	checkCost(t, api.MaxNodes, arcs, x, 32768000000000000, api.OK)
}

func TestP3_2CoordinatesThatDoNotFit(t *testing.T) {
	arcs := []api.Arc{weighed(0, 1, 3), weighed(1, 2, 0)}
	for _, x := range [][]int{{0, 0, 1}, {1, 0, 1}, {0, 1, 1}, {0, 2, 1}, {0, 0, 0}, {2, 1, 0},
		{api.MaxValue, -api.MaxValue, 0}, {0, api.MaxValue, -api.MaxValue}} {
		checkCost(t, 3, arcs, x, 0, api.ErrOrder)
	}
}

func TestP3_2WhatIsNoCoordinates(t *testing.T) {
	arcs := []api.Arc{arc(0, 1)}
	for _, x := range [][]int{nil, {}, {0}, {0, 1}, {0, 1, 2, 3}} {
		checkCost(t, 3, arcs, x, 0, api.ErrArg)
	}
	checkCost(t, 0, nil, []int{0}, 0, api.ErrArg)
	// The last node has no arc.
	for _, v := range []int{-api.MaxValue - 1, api.MaxValue + 1, math.MinInt, math.MaxInt} {
		for i := range 3 {
			x := []int{0, 1, 2}
			x[i] = v
			checkCost(t, 3, arcs, x, 0, api.ErrArg)
		}
	}
	checkCost(t, 3, arcs, []int{0, 1, -api.MaxValue}, 1, api.OK)
	checkCost(t, 3, arcs, []int{0, 1, api.MaxValue}, 1, api.OK)
}

func TestP3_2WhichErrorIsTold(t *testing.T) {
	cycle := []api.Arc{arc(0, 1), arc(1, 0)}
	good := []api.Arc{arc(0, 1)}
	for _, x := range []struct {
		n    int
		arcs []api.Arc
		x    []int
		err  api.Errno
	}{
		{2, cycle, []int{0, 1}, api.ErrCycle},
		{2, cycle, []int{0}, api.ErrCycle},
		{2, cycle, []int{math.MinInt, 0}, api.ErrCycle},
		{2, slices.Concat(cycle, []api.Arc{arc(0, 2)}), []int{0, 1}, api.ErrArg},
		{-1, nil, nil, api.ErrArg},
		{api.MaxNodes + 1, nil, make([]int, api.MaxNodes+1), api.ErrArg},
		{math.MaxInt, good, []int{0, 1}, api.ErrArg},
		{math.MinInt, good, []int{0, 1}, api.ErrArg},
		{2, good, []int{1, 0, 0}, api.ErrArg},
		{2, good, []int{0, -api.MaxValue - 1}, api.ErrArg},
		{3, good, []int{1, 0, api.MaxValue + 1}, api.ErrArg},
		{2, good, []int{1, 0}, api.ErrOrder},
	} {
		checkCost(t, x.n, x.arcs, x.x, 0, x.err)
	}
	for _, a := range notArcs(2) {
		checkCost(t, 2, []api.Arc{arc(0, 1), a}, []int{1, 0}, 0, api.ErrArg)
	}
}

func TestP3_2WhatLiesBehindTheListsIsNotRead(t *testing.T) {
	arcs := []api.Arc{arc(0, 1), arc(1, 0)}
	x := []int{0, 1, math.MaxInt}
	checkCost(t, 2, arcs[:1], x[:2], 1, api.OK)
	checkCost(t, 2, arcs[:1], x[:1], 0, api.ErrArg)
	checkRanks(t, []int{9, 7, 5, 3}[:2], 1, 0)
}

func TestP3_2RanksByHand(t *testing.T) {
	checkRanks(t, []int{5, 9, 5, -2}, 1, 2, 1, 0)
	checkRanks(t, nil)
	checkRanks(t, []int{})
	checkRanks(t, []int{7}, 0)
	checkRanks(t, []int{7, 7, 7}, 0, 0, 0)
	checkRanks(t, []int{3, 2, 1, 0}, 3, 2, 1, 0)
	checkRanks(t, []int{-1, -1, -3, -3, -2}, 2, 2, 0, 0, 1)
	checkRanks(t, []int{math.MaxInt, 0, math.MinInt, -1, math.MaxInt - 1, math.MinInt}, 4, 2, 0, 1, 3, 0)
	checkRanks(t, []int{-api.MaxValue - 1, api.MaxValue + 1}, 0, 1)
}

func TestP3_2RanksCountUnlikeLesserNumbers(t *testing.T) {
	c := chances(32)
	for range 500 {
		x := make([]int, c.below(40))
		for i := range x {
			x[i] = c.below(1+len(x)) - len(x)/2
		}
		want := make([]int, len(x))
		for i := range x {
			lesser := map[int]int{}
			for _, v := range x {
				if v < x[i] {
					lesser[v]++
				}
			}
			want[i] = len(lesser)
		}
		checkRanks(t, x, want...)
	}
}

func TestP3_2RanksOfMoreThanNodes(t *testing.T) {
	// So many that a look at all for each would be felt.
	const n = 200000
	x, want := make([]int, n), make([]int, n)
	for i := range x {
		x[i] = -3 * (i / 2)
		want[i] = n/2 - 1 - i/2
	}
	checkRanks(t, x, want...)
}

func TestP3_2RanksAreNewMemory(t *testing.T) {
	x := []int{0, 1, 2}
	first, second := Ranks(x), Ranks(x)
	first[0], second[1] = 8, 9
	if !slices.Equal(x, []int{0, 1, 2}) || !slices.Equal(first, []int{8, 1, 2}) || !slices.Equal(second, []int{0, 9, 2}) {
		t.Errorf("%v, %v and %v share memory", x, first, second)
	}
}

// fitting coordinates of a dag, with gaps.
func (c *chances) fitting(t *testing.T, n int, arcs []api.Arc) []int {
	t.Helper()
	order, err := Order(n, arcs)
	if err != api.OK {
		t.Fatalf("Order(%d, %v) tells %d", n, arcs, err)
	}
	x := make([]int, n)
	for _, v := range order {
		x[v] = c.below(1+3*n) - 2*n
		for _, a := range arcs {
			if a.To == v {
				x[v] = max(x[v], x[a.From]+1+c.below(3))
			}
		}
	}
	return x
}

func TestP3_3RanksOfCoordinatesThatFit(t *testing.T) {
	c := chances(33)
	lower := 0
	for range 1000 {
		n := 1 + c.below(20)
		arcs := c.dag(n, c.below(3*n))
		x := c.fitting(t, n, arcs)
		cost, err := Cost(n, arcs, x)
		less, e := Cost(n, arcs, Ranks(x))
		if err != api.OK || e != api.OK || less > cost {
			t.Fatalf("%v of %v cost %d, %d, their ranks %d, %d", x, arcs, cost, err, less, e)
		}
		if less < cost {
			lower++
		}
	}
	if lower < 500 {
		t.Errorf("the ranks cost less %d times of 1000: too seldom to tell", lower)
	}
	arcs := []api.Arc{weighed(0, 1, 1), weighed(1, 2, 1)}
	checkCost(t, 3, arcs, Ranks([]int{-api.MaxValue, 0, api.MaxValue}), 2, api.OK)
}

func TestWaysRanksOfAnythingThatHasAnOrder(t *testing.T) {
	checkGenericRanks(t, []string{"b", "", "ba", "b", "\xff"}, 1, 0, 2, 1, 3)
	checkGenericRanks(t, []float64{0.5, math.Inf(-1), 0.25, 0.5}, 2, 0, 1, 2)
	checkGenericRanks(t, []uint8{255, 0, 128, 0}, 2, 0, 1, 0)
	checkGenericRanks(t, []api.Errno{api.ErrArg, api.OK}, 1, 0)
	checkGenericRanks(t, []int{5, 9, 5, -2}, Ranks([]int{5, 9, 5, -2})...)
}

func checkGenericRanks[T cmp.Ordered](t *testing.T, x []T, want ...int) {
	t.Helper()
	if got := ranks(x); !slices.Equal(got, want) {
		t.Errorf("ranks of %v are %v, not %v", x, got, want)
	}
}
