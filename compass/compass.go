// Package compass is layer 1: see shared/doc/01-compass.md.
package compass

import (
	"strings"

	"muntin/api"
)

const (
	letters = "ENWS"
	count   = len(letters)
)

// turns tells how one turns to a direction that is so many quarters further to the left.
var turns = [4]int{0, 1, -2, -1}

var steps = [4]api.Point{{X: 1, Y: 0}, {X: 0, Y: 1}, {X: -1, Y: 0}, {X: 0, Y: -1}}

// Good: is it a direction?
func Good(d int) bool { return d >= 0 && d < count }

// Left: a direction turned to the left so often.
func Left(d, times int) int {
	if !Good(d) {
		return 0
	}
	return wrap(d + times%count)
}

// Turn from a direction to another one.
func Turn(d, e int) int {
	if !Good(d) || !Good(e) {
		return 0
	}
	return turns[wrap(e-d)]
}

// wrap brings a number from -4 on among the directions; a rest of Go's may be below 0.
func wrap(n int) int { return (n + count) % count }

// Step in a direction.
func Step(d int) api.Point {
	if !Good(d) {
		return api.Point{}
	}
	return steps[d]
}

// Letter of a direction.
func Letter(d int) string {
	if !Good(d) {
		return ""
	}
	return letters[d : d+1]
}

// Of a letter.
func Of(s string) (int, bool) {
	// The empty text and "NW" are found among the letters too.
	if len(s) != 1 {
		return 0, false
	}
	d := strings.Index(letters, s)
	if d < 0 {
		return 0, false
	}
	return d, true
}

// Between: the direction from one point to another one.
func Between(a, b api.Point) (int, bool) {
	if (a.X == b.X) == (a.Y == b.Y) {
		return 0, false
	}
	// The ints are compared, not subtracted: a difference could wrap round.
	switch {
	case b.X > a.X:
		return api.East, true
	case b.Y > a.Y:
		return api.North, true
	case b.X < a.X:
		return api.West, true
	default:
		return api.South, true
	}
}
