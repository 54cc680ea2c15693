package flow

// round of ways that have the same distances: a step on counts nothing, but follows the dag,
// and a step back counts one, so that no way comes to a node twice.
type round struct {
	*network
	far []distance
	// tried is how many of each node's steps lead nowhere any more.
	tried []int
}

// takeWays lets flow all that can by the ways of these distances.
func (w *network) takeWays(far []distance) {
	r := round{network: w, far: far, tried: make([]int, len(far))}
	for v := range w.left {
		for w.left[v] > 0 {
			way := r.find(v)
			if len(way) == 0 {
				break
			}
			w.take(way)
		}
	}
}

// find a way to a node to which something has to flow; nothing, if none is left.
func (r *round) find(from int) []step {
	var way []step
	v := from
	for r.left[v] >= 0 {
		if s, ok := r.next(v); ok {
			way = append(way, s)
			v = s.to
			continue
		}
		if len(way) == 0 {
			return nil
		}
		v = way[len(way)-1].from
		way = way[:len(way)-1]
		r.tried[v]++
	}
	return way
}

// next step from a node that may lead on.
func (r *round) next(v int) (step, bool) {
	for ; r.tried[v] < len(r.steps[v]); r.tried[v]++ {
		s := r.steps[v][r.tried[v]]
		if r.isOpen(s) && r.slack(s) == 0 && r.far[s.to].backs == r.far[v].backs+s.backs {
			return s, true
		}
	}
	return step{}, false
}

// take a way: as much flows as its ends need, and as the arcs have along which it goes back.
func (w *network) take(way []step) {
	from, to := way[0].from, way[len(way)-1].to
	much := min(w.left[from], -w.left[to])
	for _, s := range way {
		if s.backs > 0 {
			much = min(much, w.flow[s.arc])
		}
	}
	for _, s := range way {
		if s.backs > 0 {
			w.flow[s.arc] -= much
		} else {
			w.flow[s.arc] += much
		}
	}
	w.left[from] -= much
	w.left[to] += much
	w.taken++
}
