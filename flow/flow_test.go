package flow

import (
	"math"
	"reflect"
	"slices"
	"testing"

	"muntin/api"
	"muntin/dag"
)

// arc of the weight 1.
func arc(from, to int) api.Arc { return api.Arc{From: from, To: to, Weight: 1} }

func weighed(from, to, weight int) api.Arc { return api.Arc{From: from, To: to, Weight: weight} }

// chances is a row of numbers that look like chance, the same ones each time.
type chances uint64

func (c *chances) below(n int) int {
	*c = *c*6364136223846793005 + 1442695040888963407
	return int(uint64(*c)>>33) % n
}

// dag of n nodes and at most m arcs, that go on by at most span in some order of the nodes, and weigh at most heaviest.
func (c *chances) dag(n, m, span, heaviest int) []api.Arc {
	line := make([]int, n)
	for i := range line {
		j := c.below(i + 1)
		line[i], line[j] = line[j], i
	}
	var arcs []api.Arc
	for range m {
		i := c.below(n)
		if j := i + 1 + c.below(span); j < n {
			arcs = append(arcs, weighed(line[i], line[j], c.below(heaviest+1)))
		}
	}
	return arcs
}

// short is so much of a list as one likes to read.
func short[T any](all []T) []T { return all[:min(len(all), 20)] }

func sum(all []int) int {
	s := 0
	for _, v := range all {
		s += v
	}
	return s
}

// supplies are what each node has to give, the total, and how many nodes give, and how many take.
func supplies(n int, arcs []api.Arc) (each []int, total, giving, taking int) {
	each = make([]int, n)
	for v := range each {
		for _, a := range arcs {
			if a.From == v {
				each[v] += a.Weight
			}
			if a.To == v {
				each[v] -= a.Weight
			}
		}
		if each[v] > 0 {
			total += each[v]
			giving++
		}
		if each[v] < 0 {
			taking++
		}
	}
	return each, total, giving, taking
}

// isRight: of each node, is what flows from it, less what flows to it, its supply?
func isRight(supply []int, arcs []api.Arc, flow []int) bool {
	off := slices.Clone(supply)
	for i, a := range arcs {
		if flow[i] < 0 {
			return false
		}
		off[a.From] -= flow[i]
		off[a.To] += flow[i]
	}
	return !slices.ContainsFunc(off, func(v int) bool { return v != 0 })
}

// checkSolved holds what is told of a dag against all that it has to be, and tells the cost, too.
func checkSolved(t *testing.T, n int, arcs []api.Arc) (Result, int) {
	t.Helper()
	given := slices.Clone(arcs)
	r, err := Solve(n, arcs)
	if err != api.OK {
		t.Fatalf("Solve(%d, %v) tells %d", n, short(arcs), err)
	}
	if !slices.Equal(arcs, given) {
		t.Fatalf("of %d nodes: the arcs %v are changed", n, short(given))
	}
	cost, err := dag.Cost(n, arcs, r.X)
	if err != api.OK {
		t.Fatalf("of %v: %v don't fit: %d", short(arcs), short(r.X), err)
	}
	if !slices.Equal(dag.Ranks(r.X), r.X) {
		t.Fatalf("of %v: %v begin not at 0, or leave some number out", short(arcs), short(r.X))
	}
	supply, total, giving, taking := supplies(n, arcs)
	if len(r.Flow) != len(arcs) || !isRight(supply, arcs, r.Flow) {
		t.Fatalf("of %v: %v is no right flow", short(arcs), short(r.Flow))
	}
	for i, a := range arcs {
		if r.Flow[i] > 0 && r.X[a.To] != r.X[a.From]+1 {
			t.Fatalf("of %v: %d flows along arc %d, from %d to %d", short(arcs), r.Flow[i], i, r.X[a.From], r.X[a.To])
		}
	}
	if r.Ways > total {
		t.Fatalf("of %v: %d ways, more than %d in all flows", short(arcs), r.Ways, total)
	}
	// A way goes from one node that gives to one that takes.
	if r.Ways < max(giving, taking) {
		t.Fatalf("of %v: %d ways are too few for %d nodes that give, and %d that take", short(arcs), r.Ways, giving, taking)
	}
	if sum(r.Flow) != cost {
		t.Fatalf("of %v: %d flows, but the cost is %d", short(arcs), sum(r.Flow), cost)
	}
	return r, cost
}

func checkCost(t *testing.T, n int, arcs []api.Arc, want int) {
	t.Helper()
	if _, cost := checkSolved(t, n, arcs); cost != want {
		t.Errorf("the cost of %d, %v is %d, not %d", n, short(arcs), cost, want)
	}
}

func checkRefused(t *testing.T, n int, arcs []api.Arc, want api.Errno) {
	t.Helper()
	given := slices.Clone(arcs)
	r, err := Solve(n, arcs)
	if err != want || len(r.X) > 0 || len(r.Flow) > 0 || r.Ways != 0 {
		t.Errorf("Solve(%d, %v) is %v, %d, not %d", n, short(arcs), r, err, want)
	}
	if !slices.Equal(arcs, given) {
		t.Errorf("of %d nodes: the arcs %v are changed", n, short(given))
	}
}

func checkSupply(t *testing.T, n int, arcs []api.Arc, want ...int) {
	t.Helper()
	given := slices.Clone(arcs)
	if got := Supply(n, arcs); !slices.Equal(got, want) {
		t.Errorf("Supply(%d, %v) is %v, not %v", n, short(arcs), short(got), short(want))
	}
	if !slices.Equal(arcs, given) {
		t.Errorf("of %d nodes: the arcs %v are changed", n, short(given))
	}
}

func TestP5_1Example(t *testing.T) {
	arcs := []api.Arc{weighed(0, 1, 3), weighed(1, 2, 1), weighed(0, 2, 2)}
	r, cost := checkSolved(t, 3, arcs)
	if !slices.Equal(r.X, []int{0, 1, 2}) || cost != 8 {
		t.Errorf("it is %v, of the cost %d", r.X, cost)
	}
	// Nothing may flow along the arc that is too long: so what flows is settled.
	if !slices.Equal(r.Flow, []int{5, 3, 0}) {
		t.Errorf("what flows is %v", r.Flow)
	}
	checkSupply(t, 3, arcs, 5, -2, -3)
}

func TestP5_1CostsByHand(t *testing.T) {
	for _, x := range []struct {
		n    int
		arcs []api.Arc
		cost int
	}{
		{2, []api.Arc{weighed(1, 0, 7)}, 7},
		{2, []api.Arc{weighed(1, 0, 7), weighed(1, 0, 0), weighed(1, 0, 7)}, 14},
		// The least coordinates would cost 3 for the arc from 3 to 2, as 3 would be at 0.
		{4, []api.Arc{arc(0, 1), arc(1, 2), arc(3, 2)}, 3},
		// 0 and 3 are held apart by what weighs nothing: 1 goes to the heavier side.
		{5, []api.Arc{weighed(0, 1, 1), weighed(1, 3, 7), weighed(0, 2, 0), weighed(2, 4, 0), weighed(4, 3, 0)}, 9},
		{5, []api.Arc{weighed(0, 1, 7), weighed(1, 3, 1), weighed(0, 2, 0), weighed(2, 4, 0), weighed(4, 3, 0)}, 9},
		// What weighs nothing still has to fit: 0 and 4 can't come nearer to one another.
		{5, []api.Arc{weighed(0, 4, 2), weighed(0, 1, 0), weighed(1, 2, 0), weighed(2, 3, 0), weighed(3, 4, 0)}, 8},
	} {
		checkCost(t, x.n, x.arcs, x.cost)
	}
}

func TestP5_1Nothing(t *testing.T) {
	for _, x := range []struct {
		n    int
		arcs []api.Arc
		x    []int
	}{
		{0, nil, nil},
		{0, []api.Arc{}, nil},
		{1, nil, []int{0}},
		{3, nil, []int{0, 0, 0}},
	} {
		if r, cost := checkSolved(t, x.n, x.arcs); !slices.Equal(r.X, x.x) || cost != 0 || r.Ways != 0 {
			t.Errorf("of %d nodes alone: %v", x.n, r)
		}
	}
}

func TestP5_1WithoutWeightsNothingFlows(t *testing.T) {
	arcs := []api.Arc{weighed(0, 1, 0), weighed(1, 2, 0), weighed(0, 2, 0), weighed(3, 2, 0)}
	if r, _ := checkSolved(t, 5, arcs); r.Ways != 0 {
		t.Errorf("%d ways, though nothing flows", r.Ways)
	}
}

func TestP5_1PartsThatDoNotHangTogether(t *testing.T) {
	var arcs []api.Arc
	cost := 0
	for part := range 40 {
		first := 100 * part
		for v := first + 1; v <= first+part; v++ {
			// In each part all nodes stand in a row.
			arcs = append(arcs, weighed(v-1, v, part%3), arc(first, v))
			cost += part%3 + v - first
		}
	}
	checkCost(t, api.MaxNodes, arcs, cost)
}

// leastCost goes through all coordinates from 0 to below n.
func leastCost(n int, arcs []api.Arc) int {
	least := math.MaxInt
	eachRow(n, n, func(x []int) {
		cost := 0
		for _, a := range arcs {
			if x[a.To] <= x[a.From] {
				return
			}
			cost += a.Weight * (x[a.To] - x[a.From])
		}
		least = min(least, cost)
	})
	return least
}

// eachRow goes through all rows of n numbers from 0 to below k.
func eachRow(n, k int, do func(x []int)) {
	x := make([]int, n)
	for {
		do(x)
		i := 0
		for i < n && x[i] == k-1 {
			x[i] = 0
			i++
		}
		if i == n {
			return
		}
		x[i]++
	}
}

func TestP5_1AllGraphsOfFewNodes(t *testing.T) {
	c := chances(51)
	for n := range 5 {
		for set := range 1 << (n * n) {
			var arcs []api.Arc
			for i := range n * n {
				if set>>i&1 == 1 {
					arcs = append(arcs, weighed(i/n, i%n, c.below(4)))
				}
			}
			if err := dag.Check(n, arcs); err != api.OK {
				checkRefused(t, n, arcs, err)
			} else {
				checkCost(t, n, arcs, leastCost(n, arcs))
			}
			supply, _, _, _ := supplies(n, arcs)
			checkSupply(t, n, arcs, supply...)
			if t.Failed() {
				return
			}
		}
	}
}

func TestP5_1LeastOfAllThatFit(t *testing.T) {
	c := chances(52)
	for i := range 300 {
		n := 5 + i%2
		arcs := c.dag(n, n+c.below(2*n), n, 1+c.below(9))
		checkCost(t, n, arcs, leastCost(n, arcs))
	}
}

func TestP5_1GraphsOfMoreNodes(t *testing.T) {
	c := chances(53)
	for i := range 600 {
		n := 2 + c.below(60)
		heaviest := []int{1, 2, 10, api.MaxValue}[i%4]
		checkSolved(t, n, c.dag(n, c.below(5*n), 1+c.below(n), heaviest))
	}
}

// chain of nodes that stand in a row, whatever else there is.
func chain(from, to int) []api.Arc {
	var arcs []api.Arc
	for v := from; v+1 < to; v++ {
		arcs = append(arcs, weighed(v, v+1, 0))
	}
	return arcs
}

// Graphs of the greatest size, so heavy that single steps would be felt.
func TestP5_1GreatestGraphs(t *testing.T) {
	const n, m = api.MaxNodes, 4 * api.MaxNodes
	c := chances(54)
	for _, span := range []int{1, 3, 50, n} {
		checkSolved(t, n, c.dag(n, m, span, api.MaxValue))
	}
	one := chain(0, n)
	cost := 0
	for len(one) < m {
		from := c.below(n - 1)
		a := weighed(from, from+1+c.below(n-1-from), c.below(api.MaxValue+1))
		one = append(one, a)
		cost += a.Weight * (a.To - a.From)
	}
	checkCost(t, n, one, cost)
	two := slices.Concat(chain(0, n/2), chain(n/2, n))
	for len(two) < m {
		two = append(two, weighed(c.below(n/2), n/2+c.below(n/2), 1+c.below(api.MaxValue)))
	}
	checkSolved(t, n, two)
}

// Each leaf has a way of another length to where it is to go, if all begin at 0.
func TestP5_1AsManyLengthsAsNodes(t *testing.T) {
	const half = api.MaxNodes / 2
	arcs := chain(0, half)
	cost := 0
	for v := 1; v < half; v++ {
		arcs = append(arcs, weighed(half+v, v, v))
		cost += v
	}
	checkCost(t, api.MaxNodes, arcs, cost)
}

func TestP5_1GreatestCost(t *testing.T) {
	// Node 0 is held as far from the last one as can be, and all that may still weigh lies between.
	const last = api.MaxNodes - 1
	arcs := chain(0, api.MaxNodes)
	for len(arcs) < 4*api.MaxNodes {
		arcs = append(arcs, weighed(0, last, api.MaxValue))
	}
	heavy := 4*api.MaxNodes - last
	r, cost := checkSolved(t, api.MaxNodes, arcs)
	if cost != heavy*api.MaxValue*last || r.Ways != 1 {
		t.Errorf("the cost is %d, by %d ways", cost, r.Ways)
	}
	checkSupply(t, 2, slices.Repeat([]api.Arc{weighed(1, 0, api.MaxValue)}, 4*api.MaxNodes),
		-4*api.MaxNodes*api.MaxValue, 4*api.MaxNodes*api.MaxValue)
}

func TestP5_1SuppliesByHand(t *testing.T) {
	checkSupply(t, 0, nil)
	checkSupply(t, 3, nil, 0, 0, 0)
	checkSupply(t, 3, []api.Arc{weighed(0, 1, 3), weighed(1, 2, 1)}, 3, -2, -1)
	checkSupply(t, 4, []api.Arc{weighed(3, 0, 3), weighed(3, 0, 3), weighed(2, 3, 1), weighed(2, 0, 0)}, -6, 0, 1, 5)
	checkSupply(t, api.MaxNodes, nil, make([]int, api.MaxNodes)...)
}

// A graph may be, though it is no dag.
func TestP5_1SuppliesOfCycles(t *testing.T) {
	checkSupply(t, 1, []api.Arc{weighed(0, 0, 5)}, 0)
	checkSupply(t, 2, []api.Arc{weighed(0, 1, 5), weighed(1, 0, 2)}, 3, -3)
	checkSupply(t, 3, []api.Arc{weighed(2, 2, 4), weighed(2, 0, 1)}, -1, 0, 1)
}

// notArcs are arcs that none of a graph of n nodes may be.
func notArcs(n int) []api.Arc {
	var all []api.Arc
	for _, v := range []int{-1, -2, n, n + 1, math.MinInt, math.MaxInt} {
		all = append(all, arc(v, n-1), arc(0, v), arc(v, v))
	}
	for _, w := range []int{-1, api.MaxValue + 1, math.MinInt, math.MaxInt} {
		all = append(all, weighed(0, n-1, w))
	}
	return all
}

func TestP5_1GraphsThatMayNotBe(t *testing.T) {
	for _, n := range []int{-1, -2, api.MaxNodes + 1, math.MinInt, math.MaxInt} {
		for _, arcs := range [][]api.Arc{nil, {arc(0, 1)}, {arc(0, 1), arc(1, 0)}} {
			checkRefused(t, n, arcs, api.ErrArg)
			checkSupply(t, n, arcs)
		}
	}
	for _, a := range notArcs(4) {
		// What may not be is told ahead of a cycle, wherever it stands.
		for _, arcs := range [][]api.Arc{{arc(0, 1), a, arc(1, 2)}, {arc(1, 1), a}, {a, arc(1, 1)}} {
			checkRefused(t, 4, arcs, api.ErrArg)
			checkSupply(t, 4, arcs)
		}
	}
	checkRefused(t, 0, []api.Arc{arc(0, 0)}, api.ErrArg)
	checkSupply(t, 0, []api.Arc{arc(0, 0)})
	checkSupply(t, 1, []api.Arc{weighed(0, 1, 3)})
}

func TestP5_1Cycles(t *testing.T) {
	checkRefused(t, 1, []api.Arc{arc(0, 0)}, api.ErrCycle)
	checkRefused(t, 2, []api.Arc{arc(0, 1), arc(1, 0)}, api.ErrCycle)
	checkRefused(t, 2, []api.Arc{weighed(0, 1, 0), weighed(1, 0, 0)}, api.ErrCycle)
	checkRefused(t, 5, []api.Arc{arc(0, 1), arc(1, 2), arc(2, 3), arc(3, 1), arc(3, 4)}, api.ErrCycle)
}

func TestP5_1HowManyArcsThereMayBe(t *testing.T) {
	arcs := slices.Repeat([]api.Arc{arc(1, 0)}, 4*api.MaxNodes+1)
	checkCost(t, 2, arcs[:4*api.MaxNodes], 4*api.MaxNodes)
	checkRefused(t, 2, arcs, api.ErrArg)
	checkSupply(t, 2, arcs[:4*api.MaxNodes], -4*api.MaxNodes, 4*api.MaxNodes)
	checkSupply(t, 2, arcs)
}

func TestP5_1WhatLiesBehindTheArcsIsNotRead(t *testing.T) {
	arcs := []api.Arc{weighed(1, 0, 2), arc(0, 1), arc(7, 7)}
	checkCost(t, 2, arcs[:1], 2)
	checkRefused(t, 2, arcs[:2], api.ErrCycle)
	checkRefused(t, 2, arcs, api.ErrArg)
	checkSupply(t, 2, arcs[:1], -2, 2)
	checkSupply(t, 2, arcs[:2], -1, 1)
	checkSupply(t, 2, arcs)
	if !slices.Equal(arcs, []api.Arc{weighed(1, 0, 2), arc(0, 1), arc(7, 7)}) {
		t.Errorf("the arcs are changed: %v", arcs)
	}
}

func TestP5_1AnswersAreNewMemory(t *testing.T) {
	arcs := []api.Arc{weighed(0, 1, 3), weighed(1, 2, 1), weighed(0, 2, 2)}
	first, _ := Solve(3, arcs)
	second, _ := Solve(3, arcs)
	for i := range 3 {
		first.X[i] = 70 + i
		first.Flow[i] = 80 + i
	}
	if !slices.Equal(first.X, []int{70, 71, 72}) || !slices.Equal(second.X, []int{0, 1, 2}) || !slices.Equal(second.Flow, []int{5, 3, 0}) {
		t.Errorf("%v and %v share memory", first, second)
	}
	one, two := Supply(3, arcs), Supply(3, arcs)
	clear(one)
	if !slices.Equal(two, []int{5, -2, -3}) {
		t.Errorf("supplies were changed by way of other ones: %v", two)
	}
	checkCost(t, 3, arcs, 8)
}

func TestP5_1SameAnswerForTheSameArguments(t *testing.T) {
	c := chances(55)
	for range 50 {
		n := 2 + c.below(40)
		arcs := c.dag(n, 4*n, n, 9)
		first, _ := checkSolved(t, n, arcs)
		checkSolved(t, 2, []api.Arc{arc(1, 0)})
		if second, _ := checkSolved(t, n, slices.Clone(arcs)); !reflect.DeepEqual(first, second) {
			t.Fatalf("of %v: first %v, then %v", short(arcs), first, second)
		}
	}
}

// eachRightFlow tells the sum of each flow that leaves nothing anywhere. The arcs stand in the order
// of a dag's nodes: so what a node has left, when its arcs' turn comes, is all that it will ever have.
func eachRightFlow(arcs []api.Arc, left []int, flows int, tell func(sum int)) {
	if len(arcs) == 0 {
		if !slices.ContainsFunc(left, func(v int) bool { return v != 0 }) {
			tell(flows)
		}
		return
	}
	a := arcs[0]
	for f := range left[a.From] + 1 {
		left[a.From] -= f
		left[a.To] += f
		eachRightFlow(arcs[1:], left, flows+f, tell)
		left[a.From] += f
		left[a.To] -= f
	}
}

func TestP5_2NoRightFlowHasAGreaterSum(t *testing.T) {
	c := chances(56)
	several := 0
	for range 300 {
		n := 3 + c.below(4)
		arcs := c.dag(n, 2*n, n-1, 3)
		order, _ := dag.Order(n, arcs)
		slices.SortFunc(arcs, func(a, b api.Arc) int { return slices.Index(order, a.From) - slices.Index(order, b.From) })
		supply, _, _, _ := supplies(n, arcs)
		_, cost := checkSolved(t, n, arcs)
		greatest, right := 0, 0
		eachRightFlow(arcs, supply, 0, func(sum int) {
			greatest = max(greatest, sum)
			right++
		})
		if greatest != cost {
			t.Fatalf("of %v: the greatest flow has the sum %d, but the cost is %d", arcs, greatest, cost)
		}
		if right > 1 {
			several++
		}
	}
	if several < 100 {
		t.Errorf("%d of 300 graphs have more than one right flow: too few to tell", several)
	}
}

func TestP5_2NoCoordinatesCostLessThanARightFlow(t *testing.T) {
	c := chances(57)
	for range 200 {
		n := 10 + c.below(60)
		arcs := c.dag(n, 3*n, n, 20)
		weights := make([]int, len(arcs))
		for i, a := range arcs {
			weights[i] = a.Weight
		}
		supply, _, _, _ := supplies(n, arcs)
		r, cost := checkSolved(t, n, arcs)
		if !isRight(supply, arcs, weights) || sum(weights) > sum(r.Flow) {
			t.Fatalf("of %v: the weights, %d in all, are no right flow, or a greater one than %d", short(arcs), sum(weights), sum(r.Flow))
		}
		for range 10 {
			if x, err := dag.Cost(n, arcs, c.fitting(n, arcs)); err != api.OK || x < cost {
				t.Fatalf("of %v: other coordinates cost %d, %d, these %d", short(arcs), x, err, cost)
			}
		}
	}
}

// fitting coordinates of a dag, with gaps.
func (c *chances) fitting(n int, arcs []api.Arc) []int {
	order, _ := dag.Order(n, arcs)
	x := make([]int, n)
	for _, v := range order {
		x[v] = -c.below(3)
		for _, a := range arcs {
			if a.To == v {
				x[v] = max(x[v], x[a.From]+1+c.below(10)/9)
			}
		}
	}
	return x
}
