package cert

import (
	"math"
	"slices"
	"testing"

	"muntin/api"
	"muntin/dag"
	"muntin/flow"
)

// arc of the weight 1.
func arc(from, to int) api.Arc { return api.Arc{From: from, To: to, Weight: 1} }

func weighed(from, to, weight int) api.Arc { return api.Arc{From: from, To: to, Weight: weight} }

// example is a graph whose best coordinates are 0, 1, 2, of the cost 8: 5, 3, 0 flow to prove it.
func example() []api.Arc { return []api.Arc{weighed(0, 1, 3), weighed(1, 2, 1), weighed(0, 2, 2)} }

// chances is a row of numbers that look like chance, the same ones each time.
type chances uint64

func (c *chances) below(n int) int {
	*c = *c*6364136223846793005 + 1442695040888963407
	return int(uint64(*c)>>33) % n
}

// dag of n nodes and at most m arcs, that go on in some order of the nodes, and weigh at most heaviest.
func (c *chances) dag(n, m, heaviest int) []api.Arc {
	line := make([]int, n)
	for i := range line {
		j := c.below(i + 1)
		line[i], line[j] = line[j], i
	}
	var arcs []api.Arc
	for range m {
		i, j := c.below(n), c.below(n)
		if i != j {
			arcs = append(arcs, weighed(line[min(i, j)], line[max(i, j)], c.below(heaviest+1)))
		}
	}
	return arcs
}

// short is so much of a list as one likes to read.
func short[T any](all []T) []T { return all[:min(len(all), 20)] }

func checkCheck(t *testing.T, n int, arcs []api.Arc, x, f []int, want api.Errno) {
	t.Helper()
	givenArcs, givenX, givenF := slices.Clone(arcs), slices.Clone(x), slices.Clone(f)
	if err := Check(n, arcs, x, f); err != want {
		t.Errorf("Check(%d, %v, %v, %v) is %d, not %d", n, short(arcs), short(x), short(f), err, want)
	}
	if !slices.Equal(arcs, givenArcs) || !slices.Equal(x, givenX) || !slices.Equal(f, givenF) {
		t.Errorf("Check(%d, %v, %v, %v) changed what it was given", n, short(givenArcs), short(givenX), short(givenF))
	}
}

func TestP6_1Example(t *testing.T) {
	checkCheck(t, 2, []api.Arc{weighed(0, 1, 3)}, []int{0, 1}, []int{3}, api.OK)
}

func TestP6_1ProofsByHand(t *testing.T) {
	for _, x := range []struct {
		x, f []int
		want api.Errno
	}{
		{[]int{0, 1, 2}, []int{5, 3, 0}, api.OK},
		{[]int{-7, -6, -5}, []int{5, 3, 0}, api.OK},
		{[]int{api.MaxValue - 2, api.MaxValue - 1, api.MaxValue}, []int{5, 3, 0}, api.OK},
		{[]int{-api.MaxValue, 1 - api.MaxValue, 2 - api.MaxValue}, []int{5, 3, 0}, api.OK},
		// The weights are a right flow, and so is what lies between, but neither is the greatest.
		{[]int{0, 1, 2}, []int{3, 1, 2}, api.ErrOrder},
		{[]int{0, 1, 2}, []int{4, 2, 1}, api.ErrOrder},
		// The flow is the best one, but the coordinates aren't.
		{[]int{0, 1, 3}, []int{5, 3, 0}, api.ErrOrder},
		{[]int{0, 2, 3}, []int{5, 3, 0}, api.ErrOrder},
		{[]int{-api.MaxValue, 0, api.MaxValue}, []int{5, 3, 0}, api.ErrOrder},
		// Something stays at a node, or comes from nowhere: also where the sum is the cost.
		{[]int{0, 1, 2}, []int{5, 2, 0}, api.ErrState},
		{[]int{0, 1, 2}, []int{4, 3, 0}, api.ErrState},
		{[]int{0, 1, 2}, []int{5, 3, 1}, api.ErrState},
		{[]int{0, 1, 2}, []int{4, 4, 0}, api.ErrState},
		{[]int{0, 1, 2}, []int{0, 0, 8}, api.ErrState},
		{[]int{0, 1, 2}, []int{0, 0, 0}, api.ErrState},
	} {
		checkCheck(t, 3, example(), x.x, x.f, x.want)
	}
}

func TestP6_1Nothing(t *testing.T) {
	checkCheck(t, 0, nil, nil, nil, api.OK)
	checkCheck(t, 0, []api.Arc{}, []int{}, []int{}, api.OK)
	checkCheck(t, 3, nil, []int{9, -9, 9}, nil, api.OK)
	// What weighs nothing costs nothing, however long it is.
	checkCheck(t, 2, []api.Arc{weighed(1, 0, 0)}, []int{9, 0}, []int{0}, api.OK)
	checkCheck(t, 2, []api.Arc{weighed(1, 0, 0)}, []int{9, 0}, []int{1}, api.ErrState)
}

func TestP6_1ArcsOfTheSameEnds(t *testing.T) {
	arcs := []api.Arc{weighed(1, 0, 2), weighed(1, 0, 5)}
	for _, f := range [][]int{{2, 5}, {7, 0}, {0, 7}} {
		checkCheck(t, 2, arcs, []int{1, 0}, f, api.OK)
		checkCheck(t, 2, arcs, []int{2, 0}, f, api.ErrOrder)
	}
	checkCheck(t, 2, arcs, []int{1, 0}, []int{5, 5}, api.ErrState)
}

// What layer 3's Cost tells comes first, whatever the flow is.
func TestP6_1ErrorsOfCost(t *testing.T) {
	good := []api.Arc{arc(0, 1)}
	for _, x := range []struct {
		n    int
		arcs []api.Arc
		x    []int
		want api.Errno
	}{
		{-1, nil, nil, api.ErrArg},
		{math.MinInt, good, []int{0, 1}, api.ErrArg},
		{math.MaxInt, good, []int{0, 1}, api.ErrArg},
		{api.MaxNodes + 1, nil, make([]int, api.MaxNodes+1), api.ErrArg},
		{2, []api.Arc{arc(0, 2)}, []int{0, 1}, api.ErrArg},
		{2, []api.Arc{arc(math.MinInt, 1)}, []int{0, 1}, api.ErrArg},
		{2, []api.Arc{weighed(0, 1, -1)}, []int{0, 1}, api.ErrArg},
		{2, []api.Arc{weighed(0, 1, api.MaxValue+1)}, []int{0, 1}, api.ErrArg},
		{2, []api.Arc{arc(0, 1), arc(1, 0)}, []int{0, 1}, api.ErrCycle},
		{2, []api.Arc{arc(0, 1), arc(1, 0)}, nil, api.ErrCycle},
		{1, []api.Arc{arc(0, 0)}, []int{0}, api.ErrCycle},
		{2, good, nil, api.ErrArg},
		{2, good, []int{0}, api.ErrArg},
		{2, good, []int{0, 1, 2}, api.ErrArg},
		{2, good, []int{0, api.MaxValue + 1}, api.ErrArg},
		{2, good, []int{-api.MaxValue - 1, 0}, api.ErrArg},
		{2, good, []int{math.MaxInt, math.MinInt}, api.ErrArg},
		{2, good, []int{0, 0}, api.ErrOrder},
		{2, good, []int{1, 0}, api.ErrOrder},
	} {
		for _, f := range [][]int{nil, {1}, {0}, {-1}, {math.MaxInt}, {1, 1}, {-1, -1}} {
			checkCheck(t, x.n, x.arcs, x.x, f, x.want)
		}
	}
}

func TestP6_1HowManyNumbersAFlowHas(t *testing.T) {
	x := []int{0, 1, 2}
	for _, f := range [][]int{nil, {}, {5}, {5, 3}, {5, 3, 0, 0}, {5, 3, 0, -1}} {
		checkCheck(t, 3, example(), x, f, api.ErrArg)
	}
	checkCheck(t, 0, nil, nil, []int{0}, api.ErrArg)
	checkCheck(t, 2, nil, []int{0, 0}, []int{0}, api.ErrArg)
}

func TestP6_1NumbersThatNoFlowHas(t *testing.T) {
	x := []int{0, 1, 2}
	for i := range 3 {
		for _, v := range []int{-1, -2, 1<<40 + 1, math.MinInt, math.MaxInt, 1 << 62} {
			f := []int{5, 3, 0}
			f[i] = v
			checkCheck(t, 3, example(), x, f, api.ErrArg)
		}
		// So much may flow, but of these graphs it is never right.
		f := []int{5, 3, 0}
		f[i] = 1 << 40
		checkCheck(t, 3, example(), x, f, api.ErrState)
	}
	// Less than nothing back makes it no flow, though nothing would stay anywhere, and its sum were the cost.
	checkCheck(t, 3, example(), x, []int{6, 4, -1}, api.ErrArg)
	checkCheck(t, 3, example(), []int{0, 1, 3}, []int{8, 6, -3}, api.ErrArg)
}

func TestP6_1WhatLiesBehindTheListsIsNotRead(t *testing.T) {
	arcs := []api.Arc{arc(0, 1), arc(1, 0), arc(7, 7)}
	x := []int{0, 1, math.MaxInt}
	f := []int{1, -1, math.MinInt}
	checkCheck(t, 2, arcs[:1], x[:2], f[:1], api.OK)
	checkCheck(t, 2, arcs[:1], x[:2], f[:0], api.ErrArg)
	checkCheck(t, 2, arcs[:1], x[:1], f[:1], api.ErrArg)
	checkCheck(t, 2, arcs[:2], x[:2], f[:1], api.ErrCycle)
}

// eachRow goes through all rows of n numbers from 0 to below k.
func eachRow(n, k int, do func(x []int)) {
	x := make([]int, n)
	for {
		do(x)
		i := 0
		for i < n && x[i] == k-1 {
			x[i] = 0
			i++
		}
		if i == n {
			return
		}
		x[i]++
	}
}

// plainCheck of a graph that may be, coordinates and a flow: word by word as the promise has it.
func plainCheck(n int, arcs []api.Arc, x, f []int) api.Errno {
	cost, err := dag.Cost(n, arcs, x)
	if err != api.OK {
		return err
	}
	for v := range n {
		supply, flows := 0, 0
		for i, a := range arcs {
			if a.From == v {
				supply += a.Weight
				flows += f[i]
			}
			if a.To == v {
				supply -= a.Weight
				flows -= f[i]
			}
		}
		if flows != supply {
			return api.ErrState
		}
	}
	for _, v := range f {
		cost -= v
	}
	if cost != 0 {
		return api.ErrOrder
	}
	return api.OK
}

// leastCost goes through all coordinates from 0 to below n.
func leastCost(n int, arcs []api.Arc) int {
	least := math.MaxInt
	eachRow(n, n, func(x []int) {
		if cost, err := dag.Cost(n, arcs, x); err == api.OK {
			least = min(least, cost)
		}
	})
	return least
}

// All coordinates and flows of small graphs: what is told of them, and that what is proved is the best.
func TestP6_1AllProofsOfSmallGraphs(t *testing.T) {
	c := chances(61)
	told := map[api.Errno]int{}
	for set := range 60 {
		n := 2 + set%2
		arcs := c.dag(n, 4, 2)
		arcs = arcs[:min(len(arcs), 3)]
		if set%10 == 9 {
			arcs = append(arcs[:min(len(arcs), 2)], weighed(c.below(n), c.below(n), 1))
		}
		eachRow(n, n+1, func(x []int) {
			eachRow(len(arcs), 6, func(f []int) {
				want := plainCheck(n, arcs, x, f)
				told[want]++
				if err := Check(n, arcs, x, f); err != want {
					t.Fatalf("Check(%d, %v, %v, %v) is %d, not %d", n, arcs, x, f, err, want)
				}
			})
		})
	}
	for _, err := range []api.Errno{api.OK, api.ErrCycle, api.ErrOrder, api.ErrState} {
		if told[err] < 100 {
			t.Errorf("%d is told %d times: too seldom to tell", err, told[err])
		}
	}
}

func TestP6_2WhatIsProvedIsTheBest(t *testing.T) {
	c := chances(62)
	proved := 0
	for i := range 80 {
		n := 2 + i%3
		arcs := c.dag(n, n+2, 2)
		arcs = arcs[:min(len(arcs), 4)]
		least := leastCost(n, arcs)
		eachRow(n, n+1, func(x []int) {
			cost, err := dag.Cost(n, arcs, x)
			if err != api.OK {
				return
			}
			eachRow(len(arcs), 5, func(f []int) {
				if Check(n, arcs, x, f) != api.OK {
					return
				}
				proved++
				if cost != least {
					t.Fatalf("of %v: %v cost %d, not %d, and still %v proves them", arcs, x, cost, least, f)
				}
			})
		})
	}
	if proved < 500 {
		t.Errorf("%d proofs: too few to tell", proved)
	}
}

// What layer 5 answers is a proof; what costs more has none.
func TestP6_2WhatFlowSolvesIsProved(t *testing.T) {
	c := chances(63)
	for i := range 300 {
		n := 2 + c.below(60)
		heaviest := []int{0, 1, 10, api.MaxValue}[i%4]
		arcs := c.dag(n, 4*n, heaviest)
		r, _ := flow.Solve(n, arcs)
		checkCheck(t, n, arcs, r.X, r.Flow, api.OK)
		checkShifted(t, n, arcs, r, c.below(2*api.MaxValue)-api.MaxValue)
		checkDearer(t, n, arcs, r, c.below(n))
	}
}

// checkShifted moves all coordinates alike, which costs no more.
func checkShifted(t *testing.T, n int, arcs []api.Arc, r flow.Result, by int) {
	t.Helper()
	x := slices.Clone(r.X)
	for v := range x {
		x[v] = min(max(by, -api.MaxValue), api.MaxValue-n) + r.X[v]
	}
	checkCheck(t, n, arcs, x, r.Flow, api.OK)
}

// checkDearer moves away all nodes behind one place: they fit still, and may cost more.
func checkDearer(t *testing.T, n int, arcs []api.Arc, r flow.Result, place int) {
	t.Helper()
	x := slices.Clone(r.X)
	want := api.OK
	for v := range x {
		if r.X[v] > place {
			x[v]++
		}
	}
	for _, a := range arcs {
		if r.X[a.From] <= place && place < r.X[a.To] && a.Weight > 0 {
			want = api.ErrOrder
		}
	}
	checkCheck(t, n, arcs, x, r.Flow, want)
}

// One number more or less in the flow leaves something somewhere.
func TestP6_1AlmostRightFlows(t *testing.T) {
	c := chances(64)
	for range 100 {
		n := 2 + c.below(30)
		arcs := c.dag(n, 3*n, 9)
		r, _ := flow.Solve(n, arcs)
		for i, v := range r.Flow {
			r.Flow[i] = v + 1
			checkCheck(t, n, arcs, r.X, r.Flow, api.ErrState)
			r.Flow[i] = v - 1
			want := api.ErrState
			if v == 0 {
				want = api.ErrArg
			}
			checkCheck(t, n, arcs, r.X, r.Flow, want)
			r.Flow[i] = v
		}
	}
}

func TestP6_1GreatestGraphs(t *testing.T) {
	const last, m = api.MaxNodes - 1, 4 * api.MaxNodes
	var arcs []api.Arc
	x := make([]int, api.MaxNodes)
	for v := range last {
		arcs = append(arcs, weighed(v, v+1, 0))
		x[v+1] = v + 1
	}
	for len(arcs) < m {
		arcs = append(arcs, weighed(0, last, api.MaxValue))
	}
	// All that may weigh leads from the first node to the last one: so it flows by all of them.
	f := make([]int, m)
	for v := range last {
		f[v] = (m - last) * api.MaxValue
	}
	checkCheck(t, api.MaxNodes, arcs, x, f, api.OK)
	x[last]++
	checkCheck(t, api.MaxNodes, arcs, x, f, api.ErrOrder)
	x[last]--
	f[m-1]++
	checkCheck(t, api.MaxNodes, arcs, x, f, api.ErrState)
	// 2^40 times all arcs of the greatest graph: no sum may wrap round.
	checkCheck(t, api.MaxNodes, arcs, x, slices.Repeat([]int{1 << 40}, m), api.ErrState)
	checkCheck(t, api.MaxNodes, append(arcs, arc(0, 1)), x, append(f, 0), api.ErrArg)
}

func TestP6_1GreatestCost(t *testing.T) {
	const m = 4 * api.MaxNodes
	arcs := slices.Repeat([]api.Arc{weighed(0, 1, api.MaxValue)}, m)
	f := make([]int, m)
	f[7] = m * api.MaxValue
	checkCheck(t, 2, arcs, []int{-1, 0}, f, api.OK)
	checkCheck(t, 2, arcs, []int{-api.MaxValue, api.MaxValue}, f, api.ErrOrder)
}
