package layer

import (
	"math"
	"slices"
	"testing"

	"muntin/api"
	"muntin/dag"
)

func arc(from, to int) api.Arc { return api.Arc{From: from, To: to} }

func weighed(from, to, weight int) api.Arc { return api.Arc{From: from, To: to, Weight: weight} }

// chances is a row of numbers that look like chance, the same ones each time.
type chances uint64

func (c *chances) below(n int) int {
	*c = *c*6364136223846793005 + 1442695040888963407
	return int(uint64(*c)>>33) % n
}

// dag of n nodes and at most m arcs: all of them go on in some order of the nodes.
func (c *chances) dag(n, m int) []api.Arc {
	line := make([]int, n)
	for i := range line {
		j := c.below(i + 1)
		line[i], line[j] = line[j], i
	}
	var arcs []api.Arc
	for range m {
		i, j := c.below(n), c.below(n)
		if i != j {
			arcs = append(arcs, weighed(line[min(i, j)], line[max(i, j)], c.below(5)))
		}
	}
	return arcs
}

// short is so much of a list as one likes to read.
func short[T any](all []T) []T { return all[:min(len(all), 20)] }

func checkLayers(t *testing.T, n int, arcs []api.Arc, want []int, err api.Errno) {
	t.Helper()
	given := slices.Clone(arcs)
	got, e := Layers(n, arcs)
	if !slices.Equal(got, want) || e != err {
		t.Errorf("Layers(%d, %v) is %v, %d, not %v, %d", n, short(arcs), short(got), e, short(want), err)
	}
	if !slices.Equal(arcs, given) {
		t.Errorf("of %d nodes: the arcs %v are changed", n, short(given))
	}
}

func checkSpan(t *testing.T, want int, x ...int) {
	t.Helper()
	given := slices.Clone(x)
	if got := Span(x); got != want {
		t.Errorf("Span(%v) is %d, not %d", short(x), got, want)
	}
	if !slices.Equal(x, given) {
		t.Errorf("Span changed %v", short(given))
	}
}

func TestP4_1Example(t *testing.T) {
	checkLayers(t, 3, []api.Arc{arc(0, 1), arc(1, 2), arc(0, 2)}, []int{0, 1, 2}, api.OK)
}

func TestP4_1LayersByHand(t *testing.T) {
	for _, x := range []struct {
		n    int
		arcs []api.Arc
		want []int
	}{
		{0, nil, nil},
		{0, []api.Arc{}, nil},
		{1, nil, []int{0}},
		{3, nil, []int{0, 0, 0}},
		{2, []api.Arc{arc(1, 0)}, []int{1, 0}},
		{3, []api.Arc{arc(0, 2), arc(1, 2), arc(0, 1)}, []int{0, 1, 2}},
		{4, []api.Arc{arc(3, 2), arc(2, 1), arc(1, 0)}, []int{3, 2, 1, 0}},
		// Of two ways to a node the longer one counts, whichever comes last.
		{5, []api.Arc{arc(0, 4), arc(0, 1), arc(1, 2), arc(2, 4)}, []int{0, 1, 2, 0, 3}},
		{5, []api.Arc{arc(0, 1), arc(1, 2), arc(2, 4), arc(3, 4)}, []int{0, 1, 2, 0, 3}},
		// None is moved on toward what is behind it: 3 stays at 0.
		{4, []api.Arc{arc(0, 1), arc(1, 2), arc(3, 2)}, []int{0, 1, 2, 0}},
		// Two that have nothing to do with one another begin at 0, each.
		{5, []api.Arc{arc(4, 3), arc(1, 2), arc(2, 0)}, []int{2, 0, 1, 1, 0}},
	} {
		checkLayers(t, x.n, x.arcs, x.want, api.OK)
	}
}

func TestP4_1ArcsAreCountedNotWeighed(t *testing.T) {
	for _, w := range []int{0, 1, 7, api.MaxValue} {
		checkLayers(t, 4, []api.Arc{weighed(0, 1, w), weighed(1, 2, api.MaxValue-w), weighed(0, 2, w)}, []int{0, 1, 2, 0}, api.OK)
	}
}

func TestP4_1SeveralArcsOfTheSameEnds(t *testing.T) {
	checkLayers(t, 3, []api.Arc{arc(2, 0), weighed(2, 0, 3), arc(0, 1), arc(2, 0), arc(0, 1)}, []int{1, 2, 0}, api.OK)
}

// longestTo is how many arcs the longest way to v has: all ways are gone back.
func longestTo(v int, arcs []api.Arc) int {
	longest := 0
	for _, a := range arcs {
		if a.To == v {
			longest = max(longest, longestTo(a.From, arcs)+1)
		}
	}
	return longest
}

// wanted is what Layers is to tell of a graph that may be.
func wanted(n int, arcs []api.Arc) ([]int, api.Errno) {
	if err := dag.Check(n, arcs); err != api.OK {
		return nil, err
	}
	x := make([]int, n)
	for v := range x {
		x[v] = longestTo(v, arcs)
	}
	return x, api.OK
}

// graph of n nodes: a bit of the set is an arc.
func graph(n, set int) []api.Arc {
	var arcs []api.Arc
	for i := range n * n {
		if set>>i&1 == 1 {
			arcs = append(arcs, arc(i/n, i%n))
		}
	}
	return arcs
}

func TestP4_1AllGraphsOfFewNodes(t *testing.T) {
	for n := range 5 {
		for set := range 1 << (n * n) {
			arcs := graph(n, set)
			want, err := wanted(n, arcs)
			checkLayers(t, n, arcs, want, err)
			if t.Failed() {
				return
			}
		}
	}
}

func TestP4_1GraphsOfMoreNodes(t *testing.T) {
	c := chances(41)
	cycles := 0
	for range 400 {
		n := 1 + c.below(15)
		arcs := c.dag(n, c.below(2*n))
		want, _ := wanted(n, arcs)
		checkLayers(t, n, arcs, want, api.OK)
		// One arc more, whichever, may close a way.
		arcs = slices.Insert(arcs, c.below(len(arcs)+1), arc(c.below(n), c.below(n)))
		want, err := wanted(n, arcs)
		checkLayers(t, n, arcs, want, err)
		if err == api.ErrCycle {
			cycles++
		}
	}
	if cycles < 50 || cycles > 350 {
		t.Errorf("%d of 400 graphs had a cycle: too few, or too many, to tell", cycles)
	}
}

func TestP4_1LongestWayOfAll(t *testing.T) {
	var arcs []api.Arc
	want := make([]int, api.MaxNodes)
	for v := api.MaxNodes - 1; v > 0; v-- {
		// The first one leads on; the others are shorter ways to the same node, or to the last one.
		arcs = append(arcs, arc(v, v-1), arc(v, 0), arc(v, max(0, v-2)), arc(api.MaxNodes-1, v-1))
		want[v-1] = want[v] + 1
	}
	checkLayers(t, api.MaxNodes, arcs, want, api.OK)
	arcs = append(arcs, arc(0, api.MaxNodes-1))
	checkLayers(t, api.MaxNodes, arcs, nil, api.ErrCycle)
}

func TestP4_1Cycles(t *testing.T) {
	checkLayers(t, 1, []api.Arc{arc(0, 0)}, nil, api.ErrCycle)
	checkLayers(t, 2, []api.Arc{arc(0, 1), arc(1, 0)}, nil, api.ErrCycle)
	checkLayers(t, 5, []api.Arc{arc(0, 1), arc(1, 2), arc(2, 3), arc(3, 1), arc(3, 4)}, nil, api.ErrCycle)
	checkLayers(t, 5, []api.Arc{arc(0, 1), arc(3, 2), arc(2, 3)}, nil, api.ErrCycle)
}

func TestP4_1GraphsThatMayNotBe(t *testing.T) {
	for _, n := range []int{-1, -2, api.MaxNodes + 1, math.MinInt, math.MaxInt} {
		checkLayers(t, n, nil, nil, api.ErrArg)
		checkLayers(t, n, []api.Arc{arc(0, 1)}, nil, api.ErrArg)
	}
	checkLayers(t, api.MaxNodes, nil, make([]int, api.MaxNodes), api.OK)
	for _, a := range notArcs(4) {
		checkLayers(t, 4, []api.Arc{arc(0, 1), a, arc(1, 2)}, nil, api.ErrArg)
		// What may not be is told ahead of a cycle, wherever it stands.
		checkLayers(t, 4, []api.Arc{arc(1, 1), a}, nil, api.ErrArg)
		checkLayers(t, 4, []api.Arc{a, arc(1, 1)}, nil, api.ErrArg)
	}
	checkLayers(t, 0, []api.Arc{arc(0, 0)}, nil, api.ErrArg)
}

// notArcs are arcs that none of a graph of n nodes may be.
func notArcs(n int) []api.Arc {
	var all []api.Arc
	for _, v := range []int{-1, -2, n, n + 1, math.MinInt, math.MaxInt} {
		all = append(all, arc(v, n-1), arc(0, v), arc(v, v))
	}
	for _, w := range []int{-1, api.MaxValue + 1, math.MinInt, math.MaxInt} {
		all = append(all, weighed(0, n-1, w))
	}
	return all
}

func TestP4_1HowManyArcsThereMayBe(t *testing.T) {
	arcs := make([]api.Arc, 4*api.MaxNodes+1)
	for i := range arcs {
		arcs[i] = arc(1, 0)
	}
	checkLayers(t, 2, arcs[:4*api.MaxNodes], []int{1, 0}, api.OK)
	checkLayers(t, 2, arcs, nil, api.ErrArg)
}

func TestP4_1WhatLiesBehindTheArcsIsNotRead(t *testing.T) {
	arcs := []api.Arc{arc(1, 0), arc(0, 1), arc(7, 7)}
	checkLayers(t, 2, arcs[:1], []int{1, 0}, api.OK)
	checkLayers(t, 2, arcs[:2], nil, api.ErrCycle)
	checkLayers(t, 2, arcs, nil, api.ErrArg)
	checkSpan(t, 1, []int{4, 5, 9, 0}[:2]...)
	checkSpan(t, 0, []int{4, 5}[:0]...)
}

func TestP4_1LayersAreNewMemory(t *testing.T) {
	arcs := []api.Arc{arc(2, 0)}
	first, _ := Layers(3, arcs)
	second, _ := Layers(3, arcs)
	first[0], first[1], first[2] = 7, 8, 9
	if !slices.Equal(second, []int{1, 0, 0}) {
		t.Errorf("coordinates were changed by way of other ones: %v", second)
	}
	checkLayers(t, 3, arcs, []int{1, 0, 0}, api.OK)
}

func TestP4_1SpansByHand(t *testing.T) {
	checkSpan(t, 0)
	checkSpan(t, 0, []int{}...)
	checkSpan(t, 0, 5)
	checkSpan(t, 0, -5)
	checkSpan(t, 0, 4, 4, 4)
	checkSpan(t, 9, 3, -2, 7)
	// The ends aren't next to one another, nor is 0 among the numbers.
	checkSpan(t, 6, 5, 9, 3, 8)
	checkSpan(t, 6, -5, -9, -3, -8)
	checkSpan(t, 3, 2, 1, 4, 2)
	checkSpan(t, api.MaxValue, api.MaxValue, 0)
	checkSpan(t, 2*api.MaxValue, 0, -api.MaxValue, 1, api.MaxValue, -1)
	checkSpan(t, 2*api.MaxValue, api.MaxValue, -api.MaxValue)
}

func TestP4_1SpansOfAllFewNumbers(t *testing.T) {
	eachRow(4, 6, func(x []int) bool {
		want := 0
		for _, a := range x {
			for _, b := range x {
				want = max(want, a-b)
			}
		}
		checkSpan(t, want, x...)
		return !t.Failed()
	})
}

// No promise tells what the span of such numbers is, but P1 that the call ends.
func TestP4_1SpanOfAnyIntsEnds(t *testing.T) {
	ends := []int{math.MinInt, -api.MaxValue - 1, 0, api.MaxValue + 1, math.MaxInt}
	for _, a := range ends {
		for _, b := range ends {
			Span([]int{a, b})
		}
	}
	checkSpan(t, 0, math.MinInt)
	checkSpan(t, 0, math.MaxInt, math.MaxInt)
}

// eachRow goes through all rows of n numbers from 0 to below k, till one is enough.
func eachRow(n, k int, goOn func(x []int) bool) {
	x := make([]int, n)
	for {
		if !goOn(x) {
			return
		}
		i := 0
		for i < n && x[i] == k-1 {
			x[i] = 0
			i++
		}
		if i == n {
			return
		}
		x[i]++
	}
}

func fit(n int, arcs []api.Arc, x []int) bool {
	_, err := dag.Cost(n, arcs, x)
	return err == api.OK
}

// isLeast holds coordinates against others that fit: none is greater by itself, nor is their span.
func isLeast(t *testing.T, arcs []api.Arc, least, x []int) {
	t.Helper()
	lowest := 0
	for v := range x {
		lowest = min(lowest, x[v])
	}
	for v := range x {
		if least[v] > x[v]-lowest {
			t.Fatalf("of %v: %v is less at %d than %v", short(arcs), short(x), v, short(least))
		}
	}
	if Span(least) > Span(x) {
		t.Fatalf("of %v: %v has a lesser span than %v", short(arcs), short(x), short(least))
	}
}

func TestP4_2LeastOfAllThatFit(t *testing.T) {
	for n := range 5 {
		for set := range 1 << (n * n) {
			arcs := graph(n, set)
			least, err := Layers(n, arcs)
			if err != api.OK {
				continue
			}
			if !fit(n, arcs, least) {
				t.Fatalf("%v don't fit %v", least, arcs)
			}
			eachRow(n, n+1, func(x []int) bool {
				if fit(n, arcs, x) {
					isLeast(t, arcs, least, x)
				}
				return true
			})
		}
	}
}

// fitting coordinates of a dag, with gaps, some of them below 0.
func (c *chances) fitting(n int, arcs []api.Arc) []int {
	order, _ := dag.Order(n, arcs)
	x := make([]int, n)
	for _, v := range order {
		x[v] = c.below(1+n) - n/2
		for _, a := range arcs {
			if a.To == v {
				x[v] = max(x[v], x[a.From]+1+c.below(2))
			}
		}
	}
	return x
}

func TestP4_2LeastInGreaterGraphs(t *testing.T) {
	c := chances(42)
	for range 300 {
		n := 1 + c.below(60)
		arcs := c.dag(n, c.below(3*n))
		least, err := Layers(n, arcs)
		if err != api.OK || !fit(n, arcs, least) {
			t.Fatalf("Layers(%d, %v) is %v, %d: they don't fit", n, short(arcs), short(least), err)
		}
		for range 5 {
			isLeast(t, arcs, least, c.fitting(n, arcs))
		}
		checkNoneCanBeLess(t, n, arcs, least)
	}
}

// checkNoneCanBeLess: where each is at 0, or right behind one from which an arc leads to it, none can go back by itself.
func checkNoneCanBeLess(t *testing.T, n int, arcs []api.Arc, x []int) {
	t.Helper()
	for v := range n {
		held := x[v] == 0 || slices.ContainsFunc(arcs, func(a api.Arc) bool { return a.To == v && x[a.From] == x[v]-1 })
		if !held {
			t.Fatalf("of %v: %d could be less in %v", short(arcs), v, short(x))
		}
	}
}
