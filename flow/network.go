package flow

import (
	"math"
	"slices"

	"muntin/api"
	"muntin/heap"
)

// network is a dag through which something flows. At all times x fits, and nothing flows along an arc
// whose To isn't just one more than its From: so both are the best, once nothing is left.
type network struct {
	x, flow []int
	// left is what has still to flow from each node; below 0, what has still to flow to it.
	left  []int
	steps [][]step
	taken int
}

// step from a node to another one: along an arc, or back along it, by which less flows there.
type step struct {
	arc, from, to int
	// backs is 1, if it goes back, else 0.
	backs int
}

func newNetwork(arcs []api.Arc, x, supply []int) *network {
	w := &network{x: x, flow: make([]int, len(arcs)), left: supply, steps: make([][]step, len(x))}
	for i, a := range arcs {
		w.steps[a.From] = append(w.steps[a.From], step{arc: i, from: a.From, to: a.To})
		w.steps[a.To] = append(w.steps[a.To], step{arc: i, from: a.To, to: a.From, backs: 1})
	}
	return w
}

// letFlow goes on till nothing is left. As the arcs' weights are a right flow, what is left always has a way.
func (w *network) letFlow() {
	for slices.ContainsFunc(w.left, func(left int) bool { return left > 0 }) {
		far, near := w.search()
		w.lower(far, near)
		w.takeWays(far)
	}
}

// distance from the nodes that have something left: by how much the arcs on the way are too long,
// and where that is the same, how many of its steps go back.
type distance struct{ slack, backs int }

func (d distance) less(e distance) bool {
	return d.slack < e.slack || d.slack == e.slack && d.backs < e.backs
}

// visit of a node, at a distance.
type visit struct {
	node int
	distance
}

// search tells the nodes' distances, and the slack of the nearest node to which something has to flow.
// A node that has more slack than that one may be told a greater distance than its own.
func (w *network) search() (far []distance, near int) {
	near = math.MaxInt
	far = slices.Repeat([]distance{{slack: near, backs: near}}, len(w.x))
	next := heap.New(func(a, b visit) bool { return a.less(b.distance) })
	for v, left := range w.left {
		if left > 0 {
			far[v] = distance{}
			next.Push(visit{node: v})
		}
	}
	for v, ok := next.Pop(); ok && v.slack <= near; v, ok = next.Pop() {
		// A shorter way may have been found meanwhile.
		if v.distance != far[v.node] {
			continue
		}
		if w.left[v.node] < 0 {
			near = v.slack
		}
		for _, s := range w.steps[v.node] {
			d := distance{v.slack + w.slack(s), v.backs + s.backs}
			if w.isOpen(s) && d.less(far[s.to]) {
				far[s.to] = d
				next.Push(visit{s.to, d})
			}
		}
	}
	return far, near
}

// isOpen: may something more flow by that step?
func (w *network) isOpen(s step) bool { return s.backs == 0 || w.flow[s.arc] > 0 }

// slack is by how much a step's arc is too long. An open step back has none, as something flows there.
func (w *network) slack(s step) int {
	if s.backs > 0 {
		return 0
	}
	return w.x[s.to] - w.x[s.from] - 1
}

// lower the coordinates, so that the shortest ways have no slack any more. They still fit:
// no node is lowered by more than one ahead of it and the slack between them.
func (w *network) lower(far []distance, near int) {
	for v := range w.x {
		w.x[v] -= min(far[v].slack, near)
	}
}
