package compass

import (
	"math"
	"testing"

	"muntin/api"
)

var (
	directions = []int{api.East, api.North, api.West, api.South}
	none       = []int{-1, -2, -3, -4, 4, 5, 8, math.MinInt, math.MinInt + 1, math.MaxInt - 1, math.MaxInt}
	ints       = []int{math.MinInt, math.MinInt + 1, -1000001, -2, -1, 0, 1, 2, 1000001, math.MaxInt - 1, math.MaxInt}
)

func TestP1_1Good(t *testing.T) {
	for _, d := range directions {
		if !Good(d) {
			t.Errorf("Good(%d) is false", d)
		}
	}
	for _, d := range none {
		if Good(d) {
			t.Errorf("Good(%d) is true", d)
		}
	}
}

func TestP1_1LeftStepByStep(t *testing.T) {
	for _, d := range directions {
		left, right := d, d
		for times := range 13 {
			if got := Left(d, times); got != left {
				t.Errorf("Left(%d, %d) is %d, not %d", d, times, got, left)
			}
			if got := Left(d, -times); got != right {
				t.Errorf("Left(%d, %d) is %d, not %d", d, -times, got, right)
			}
			left = []int{api.North, api.West, api.South, api.East}[left]
			right = []int{api.South, api.East, api.North, api.West}[right]
		}
	}
}

func TestP1_1LeftOfTheLeastAndTheGreatestTimes(t *testing.T) {
	// The least int is a multiple of 4, the greatest one is 3 above such a one.
	for _, d := range directions {
		for _, x := range []struct{ times, quarters int }{
			{math.MinInt, 0}, {math.MinInt + 1, 1}, {math.MinInt + 2, 2}, {math.MinInt + 3, 3},
			{math.MaxInt, 3}, {math.MaxInt - 1, 2}, {math.MaxInt - 2, 1}, {math.MaxInt - 3, 0},
		} {
			if got, want := Left(d, x.times), directions[(d+x.quarters)%4]; got != want {
				t.Errorf("Left(%d, %d) is %d, not %d", d, x.times, got, want)
			}
		}
	}
}

func TestP1_1LeftOfNone(t *testing.T) {
	for _, d := range none {
		for _, times := range ints {
			if got := Left(d, times); got != 0 {
				t.Errorf("Left(%d, %d) is %d, not 0", d, times, got)
			}
		}
	}
}

func TestP1_1Turn(t *testing.T) {
	want := [4][4]int{
		{0, 1, -2, -1},
		{-1, 0, 1, -2},
		{-2, -1, 0, 1},
		{1, -2, -1, 0},
	}
	for _, d := range directions {
		for _, e := range directions {
			if got := Turn(d, e); got != want[d][e] {
				t.Errorf("Turn(%d, %d) is %d, not %d", d, e, got, want[d][e])
			}
		}
	}
}

func TestP1_1TurnOfNone(t *testing.T) {
	for _, n := range none {
		for _, m := range append(append([]int{}, directions...), none...) {
			if got := Turn(n, m); got != 0 {
				t.Errorf("Turn(%d, %d) is %d, not 0", n, m, got)
			}
			if got := Turn(m, n); got != 0 {
				t.Errorf("Turn(%d, %d) is %d, not 0", m, n, got)
			}
		}
	}
}

func TestP1_1Examples(t *testing.T) {
	if got := Left(api.South, 1); got != api.East {
		t.Errorf("Left(South, 1) is %d, not East", got)
	}
	if got := Turn(api.North, api.East); got != -1 {
		t.Errorf("Turn(North, East) is %d, not -1", got)
	}
}

func TestP1_2Step(t *testing.T) {
	want := [4]api.Point{{X: 1, Y: 0}, {X: 0, Y: 1}, {X: -1, Y: 0}, {X: 0, Y: -1}}
	for _, d := range directions {
		if got := Step(d); got != want[d] {
			t.Errorf("Step(%d) is %v, not %v", d, got, want[d])
		}
	}
	for _, d := range none {
		if got := Step(d); got != (api.Point{}) {
			t.Errorf("Step(%d) is %v, not 0, 0", d, got)
		}
	}
}

func TestP1_2Letter(t *testing.T) {
	want := [4]string{"E", "N", "W", "S"}
	for _, d := range directions {
		if got := Letter(d); got != want[d] {
			t.Errorf("Letter(%d) is %q, not %q", d, got, want[d])
		}
	}
	for _, d := range none {
		if got := Letter(d); got != "" {
			t.Errorf("Letter(%d) is %q, not empty", d, got)
		}
	}
}

func TestP1_2OfEveryByte(t *testing.T) {
	whose := map[string]int{"E": api.East, "N": api.North, "W": api.West, "S": api.South}
	for b := range 256 {
		s := string([]byte{byte(b)})
		want, is := whose[s]
		if got, ok := Of(s); got != want || ok != is {
			t.Errorf("Of(%q) is %d, %v, not %d, %v", s, got, ok, want, is)
		}
	}
}

func TestP1_2OfOtherTexts(t *testing.T) {
	for _, s := range []string{
		"", "EN", "NW", "WS", "ENW", "NWS", "ENWS", "EE", "SE", "E ", " E", "E\n", "E\x00", "East", "north",
		"\u00cb", "\uff25", "\u0415", "E\u0301", "\xff\xfe", "0", "1",
	} {
		if got, ok := Of(s); got != 0 || ok {
			t.Errorf("Of(%q) is %d, %v, not 0, false", s, got, ok)
		}
	}
}

func TestP1_3BetweenOfAllPairs(t *testing.T) {
	for _, ax := range ints {
		for _, ay := range ints {
			for _, bx := range ints {
				for _, by := range ints {
					checkBetween(t, api.Point{X: ax, Y: ay}, api.Point{X: bx, Y: by})
				}
			}
		}
	}
}

func checkBetween(t *testing.T, a, b api.Point) {
	t.Helper()
	want, is := 0, false
	switch {
	case a.Y == b.Y && a.X < b.X:
		want, is = api.East, true
	case a.X == b.X && a.Y < b.Y:
		want, is = api.North, true
	case a.Y == b.Y && a.X > b.X:
		want, is = api.West, true
	case a.X == b.X && a.Y > b.Y:
		want, is = api.South, true
	}
	if got, ok := Between(a, b); got != want || ok != is {
		t.Errorf("Between(%v, %v) is %d, %v, not %d, %v", a, b, got, ok, want, is)
	}
}

func TestP1_3BetweenByHand(t *testing.T) {
	for _, x := range []struct {
		a, b api.Point
		d    int
		ok   bool
	}{
		{api.Point{X: 2, Y: 3}, api.Point{X: 7, Y: 3}, api.East, true},
		{api.Point{X: 2, Y: 3}, api.Point{X: 2, Y: 4}, api.North, true},
		{api.Point{X: 2, Y: 3}, api.Point{X: -9, Y: 3}, api.West, true},
		{api.Point{X: 2, Y: 3}, api.Point{X: 2, Y: 0}, api.South, true},
		{api.Point{X: math.MinInt}, api.Point{X: math.MaxInt}, api.East, true},
		{api.Point{Y: math.MaxInt}, api.Point{Y: math.MinInt}, api.South, true},
		{api.Point{X: 2, Y: 3}, api.Point{X: 2, Y: 3}, 0, false},
		{api.Point{X: 2, Y: 3}, api.Point{X: 3, Y: 2}, 0, false},
	} {
		if d, ok := Between(x.a, x.b); d != x.d || ok != x.ok {
			t.Errorf("Between(%v, %v) is %d, %v, not %d, %v", x.a, x.b, d, ok, x.d, x.ok)
		}
	}
}

func TestP1_3BetweenIsTheWayOfAStep(t *testing.T) {
	for _, d := range directions {
		if got, ok := Between(api.Point{}, Step(d)); got != d || !ok {
			t.Errorf("Between(0 0, Step(%d)) is %d, %v", d, got, ok)
		}
		if got, ok := Between(Step(d), api.Point{}); got != Left(d, 2) || !ok {
			t.Errorf("Between(Step(%d), 0 0) is %d, %v", d, got, ok)
		}
	}
}
