package heap

import (
	"cmp"
	"math"
	"reflect"
	"slices"
	"strings"
	"testing"
)

// one is a thing of which less sees the key alone; more tells alike things apart.
type one struct{ key, more int }

func byKey(a, b one) bool { return a.key < b.key }

func number(a, b int) bool { return a < b }

// filled is a heap into which all were pushed, one behind the other.
func filled[T any](less func(a, b T) bool, all ...T) *Heap[T] {
	h := New(less)
	for _, x := range all {
		h.Push(x)
	}
	return h
}

// drained pops all, and looks at Top and Len on the way.
func drained[T any](t *testing.T, h *Heap[T]) []T {
	t.Helper()
	var all []T
	for left := h.Len(); left > 0; left-- {
		top, is := h.Top()
		x, ok := h.Pop()
		if !is || !ok || !reflect.DeepEqual(top, x) {
			t.Fatalf("of %d: Top is %v, %v, Pop is %v, %v", left, top, is, x, ok)
		}
		if h.Len() != left-1 {
			t.Fatalf("Len is %d, not %d", h.Len(), left-1)
		}
		all = append(all, x)
	}
	checkEmpty(t, h)
	return all
}

func checkEmpty[T any](t *testing.T, h *Heap[T]) {
	t.Helper()
	var none T
	if n := h.Len(); n != 0 {
		t.Errorf("Len is %d, not 0", n)
	}
	if x, ok := h.Top(); ok || !reflect.DeepEqual(x, none) {
		t.Errorf("Top of none is %v, %v", x, ok)
	}
	if x, ok := h.Pop(); ok || !reflect.DeepEqual(x, none) {
		t.Errorf("Pop of none is %v, %v", x, ok)
	}
	if n := h.Len(); n != 0 {
		t.Errorf("Len is %d, not 0, when none was popped", n)
	}
}

func checkDrained[T any](t *testing.T, h *Heap[T], want ...T) {
	t.Helper()
	if got := drained(t, h); !slices.EqualFunc(got, want, func(a, b T) bool { return reflect.DeepEqual(a, b) }) {
		t.Errorf("popped %v, not %v", got, want)
	}
}

// chances is a row of numbers that look like chance, the same ones each time.
type chances uint64

func (c *chances) below(n int) int {
	*c = *c*6364136223846793005 + 1442695040888963407
	return int(uint64(*c)>>33) % n
}

func TestP2_1Example(t *testing.T) {
	checkDrained(t, filled(number, 3, 1, 2), 1, 2, 3)
}

func TestP2_1HeapOfNoThings(t *testing.T) {
	checkEmpty(t, New(number))
	checkEmpty(t, New(byKey))
	checkEmpty(t, New(func(a, b string) bool { return a < b }))
	checkEmpty(t, New(func(a, b *one) bool { return a.key < b.key }))
	checkEmpty(t, New(func(a, b []int) bool { return len(a) < len(b) }))
}

func TestP2_1OneThing(t *testing.T) {
	h := filled(number, 7)
	for range 3 {
		if x, ok := h.Top(); x != 7 || !ok || h.Len() != 1 {
			t.Errorf("Top is %d, %v, Len is %d", x, ok, h.Len())
		}
	}
	checkDrained(t, h, 7)
}

func TestP2_1ZeroIsAThingToo(t *testing.T) {
	checkDrained(t, filled(number, 0, 0, -1, 1), -1, 0, 0, 1)
	checkDrained(t, filled(func(a, b string) bool { return a < b }, "", "a", ""), "", "", "a")
	checkDrained(t, filled(func(a, b *one) bool { return false }, nil, &one{1, 2}, nil), nil, &one{1, 2}, nil)
}

func TestP2_1AlikeThingsOfAllShortLists(t *testing.T) {
	for n := range 9 {
		keys := make([]int, n)
		for more := true; more; more = countUp(keys, 3) {
			h := New(byKey)
			var want []one
			for i, k := range keys {
				h.Push(one{k, i})
				want = append(want, one{k, i})
			}
			slices.SortStableFunc(want, func(a, b one) int { return cmp.Compare(a.key, b.key) })
			checkDrained(t, h, want...)
		}
	}
}

// countUp brings digits of that base to the next number; false behind the last one.
func countUp(digits []int, base int) bool {
	for i := range digits {
		digits[i]++
		if digits[i] < base {
			return true
		}
		digits[i] = 0
	}
	return false
}

func TestP2_1AllAlike(t *testing.T) {
	// So many that a search through all for each would be felt.
	const n = 100000
	h := New(byKey)
	for i := range n {
		h.Push(one{5, i})
	}
	for i := range n {
		if x, ok := h.Pop(); x != (one{5, i}) || !ok {
			t.Fatalf("Pop %d is %v, %v", i, x, ok)
		}
	}
	checkEmpty(t, h)
}

// model is what a heap is held against: a list that is always in order.
type model []one

func (m *model) push(x one) {
	at := slices.IndexFunc(*m, func(y one) bool { return y.key > x.key })
	if at < 0 {
		at = len(*m)
	}
	*m = slices.Insert(*m, at, x)
}

func (m *model) pop() (one, bool) {
	x, ok := m.top()
	if ok {
		*m = slices.Delete(*m, 0, 1)
	}
	return x, ok
}

func (m *model) top() (one, bool) {
	if len(*m) == 0 {
		return one{}, false
	}
	return (*m)[0], true
}

func TestP2_1PushesBetweenPops(t *testing.T) {
	for _, keys := range []int{1, 2, 5, 1000} {
		c := chances(keys)
		h, m := New(byKey), model{}
		for i := range 20000 {
			// Now more is pushed than popped, now less.
			if c.below(10) < 3+i/1000%5 {
				x := one{c.below(keys), i}
				h.Push(x)
				m.push(x)
			} else {
				want, is := m.pop()
				if x, ok := h.Pop(); x != want || ok != is {
					t.Fatalf("Pop is %v, %v, not %v, %v", x, ok, want, is)
				}
			}
			want, is := m.top()
			if x, ok := h.Top(); x != want || ok != is || h.Len() != len(m) {
				t.Fatalf("Top is %v, %v, not %v, %v; Len is %d, not %d", x, ok, want, is, h.Len(), len(m))
			}
		}
		checkDrained(t, h, m...)
	}
}

func TestP2_1AlikeBehindThoseThatStayed(t *testing.T) {
	h := filled(byKey, one{2, 0}, one{1, 1}, one{2, 2}, one{1, 3})
	if x, ok := h.Pop(); x != (one{1, 1}) || !ok {
		t.Errorf("Pop is %v, %v", x, ok)
	}
	h.Push(one{1, 4})
	h.Push(one{2, 5})
	if x, ok := h.Pop(); x != (one{1, 3}) || !ok {
		t.Errorf("Pop is %v, %v", x, ok)
	}
	h.Push(one{1, 6})
	checkDrained(t, h, one{1, 4}, one{1, 6}, one{2, 0}, one{2, 2}, one{2, 5})
}

func TestP2_1UsedAgainWhenEmpty(t *testing.T) {
	h := New(byKey)
	for range 3 {
		h.Push(one{2, 0})
		h.Push(one{1, 1})
		h.Push(one{2, 2})
		checkDrained(t, h, one{1, 1}, one{2, 0}, one{2, 2})
	}
}

func TestP2_1SeveralTypesAndOrders(t *testing.T) {
	checkDrained(t, filled(func(a, b int) bool { return a > b }, 3, math.MinInt, 1, math.MaxInt, 2),
		math.MaxInt, 3, 2, 1, math.MinInt)
	checkDrained(t, filled(number, math.MaxInt, 0, math.MinInt, -1), math.MinInt, -1, 0, math.MaxInt)
	checkDrained(t, filled(func(a, b string) bool { return len(a) < len(b) }, "bb", "a", "ccc", "aa", "c", ""),
		"", "a", "c", "bb", "aa", "ccc")
	checkDrained(t, filled(func(a, b string) bool { return a < b }, "b", "\xff", "ba", "", "a"),
		"", "a", "b", "ba", "\xff")
	checkDrained(t, filled(func(a, b float64) bool { return a < b }, 0.5, -2, math.Inf(1), 0.25),
		-2, 0.25, 0.5, math.Inf(1))
	checkDrained(t, filled(func(a, b uint8) bool { return a < b }, 255, 0, 128), 0, 128, 255)
	checkDrained(t, filled(func(a, b bool) bool { return !a && b }, true, false, true), false, true, true)
	checkDrained(t, filled(func(a, b []int) bool { return len(a) < len(b) }, []int{1, 2}, nil, []int{3}, []int{4}),
		nil, []int{3}, []int{4}, []int{1, 2})
	checkDrained(t, filled(func(a, b any) bool { return a == nil && b != nil }, any(1), nil, any("x")),
		nil, any(1), any("x"))
}

func TestP2_1OrderOfAClosure(t *testing.T) {
	rank := []int{2, 0, 1}
	checkDrained(t, filled(func(a, b int) bool { return rank[a] < rank[b] }, 0, 1, 2), 1, 2, 0)
}

func TestP2_1SamePointerTwice(t *testing.T) {
	a, b := &one{1, 0}, &one{0, 0}
	h := filled(func(a, b *one) bool { return a.key < b.key }, a, b, a)
	for i, want := range []*one{b, a, a} {
		if x, ok := h.Pop(); x != want || !ok {
			t.Errorf("Pop %d is %p, %v, not %p", i, x, ok, want)
		}
	}
}

func TestP2_1NilHeap(t *testing.T) {
	var h *Heap[one]
	checkEmpty(t, h)
	h.Push(one{1, 2})
	checkEmpty(t, h)
	h.Merge(nil)
	h.Merge(h)
	checkEmpty(t, h)
	o := filled(byKey, one{2, 0}, one{1, 1})
	h.Merge(o)
	checkEmpty(t, h)
	checkDrained(t, o, one{1, 1}, one{2, 0})
}

func TestP2_1MergeInTheOrderOfTheOtherOne(t *testing.T) {
	h := filled(func(a, b string) bool { return len(a) < len(b) }, "mm", "a", "zzz")
	o := filled(func(a, b string) bool { return a > b }, "b", "yy", "x", "aa", "bbb")
	h.Merge(o)
	if h.Len() != 8 {
		t.Errorf("Len is %d, not 8", h.Len())
	}
	checkEmpty(t, o)
	checkDrained(t, h, "a", "x", "b", "mm", "yy", "aa", "zzz", "bbb")
}

func TestP2_1MergeOfAlikeThings(t *testing.T) {
	h := filled(byKey, one{1, 0}, one{2, 1}, one{1, 2})
	o := filled(byKey, one{2, 3}, one{1, 4}, one{2, 5}, one{1, 6}, one{0, 7})
	h.Merge(o)
	h.Push(one{1, 8})
	checkDrained(t, h, one{0, 7}, one{1, 0}, one{1, 2}, one{1, 4}, one{1, 6}, one{1, 8}, one{2, 1}, one{2, 3}, one{2, 5})
}

func TestP2_1MergeBehindPops(t *testing.T) {
	// What is left of the other one is pushed, however often that one was pushed to.
	h, o := filled(byKey, one{1, 0}), filled(byKey, one{0, 1}, one{0, 2}, one{0, 3}, one{1, 4})
	for range 3 {
		o.Pop()
	}
	o.Push(one{1, 5})
	h.Pop()
	h.Push(one{1, 6})
	h.Merge(o)
	checkEmpty(t, o)
	checkDrained(t, h, one{1, 6}, one{1, 4}, one{1, 5})
}

func TestP2_1MergeWithNil(t *testing.T) {
	h := filled(byKey, one{2, 0}, one{1, 1}, one{2, 2})
	h.Merge(nil)
	checkDrained(t, h, one{1, 1}, one{2, 0}, one{2, 2})
	h.Merge(nil)
	checkEmpty(t, h)
}

func TestP2_1MergeWithItself(t *testing.T) {
	h := filled(byKey, one{2, 0}, one{1, 1}, one{2, 2})
	h.Merge(h)
	checkDrained(t, h, one{1, 1}, one{2, 0}, one{2, 2})
	h.Merge(h)
	checkEmpty(t, h)
}

func TestP2_1MergeWithAnEmptyOne(t *testing.T) {
	h, o := filled(byKey, one{2, 0}, one{1, 1}, one{2, 2}), New(byKey)
	h.Merge(o)
	checkEmpty(t, o)
	o.Merge(h)
	checkEmpty(t, h)
	checkDrained(t, o, one{1, 1}, one{2, 0}, one{2, 2})
	h.Merge(o)
	checkEmpty(t, h)
	checkEmpty(t, o)
}

func TestP2_1MergedHeapsKeepTheirOrders(t *testing.T) {
	h, o := filled(number, 1, 2), filled(func(a, b int) bool { return a > b }, 3, 4)
	h.Merge(o)
	for _, x := range []int{5, 7, 6} {
		h.Push(x)
		o.Push(x)
	}
	checkDrained(t, h, 1, 2, 3, 4, 5, 6, 7)
	checkDrained(t, o, 7, 6, 5)
}

func TestP2_2WhatIsPoppedNeverFalls(t *testing.T) {
	orders := map[string]func(a, b int) bool{
		"up":     number,
		"down":   func(a, b int) bool { return a > b },
		"tens":   func(a, b int) bool { return a/10 < b/10 },
		"parity": func(a, b int) bool { return a%2 < b%2 },
		"alike":  func(a, b int) bool { return false },
	}
	for name, less := range orders {
		c := chances(len(name))
		h := New(less)
		for round := range 20 {
			for range c.below(300) {
				h.Push(c.below(1000))
			}
			// In the last round all, in the others some.
			n := h.Len()
			if round < 19 {
				n = c.below(n + 1)
			}
			checkNeverFalls(t, name, h, less, n)
		}
		checkEmpty(t, h)
	}
}

func checkNeverFalls(t *testing.T, name string, h *Heap[int], less func(a, b int) bool, n int) {
	t.Helper()
	var all []int
	for range n {
		x, ok := h.Pop()
		if !ok {
			t.Fatalf("%s: nothing was popped of a heap that has things", name)
		}
		for _, y := range all {
			if less(x, y) {
				t.Fatalf("%s: %d was popped behind %d", name, x, y)
			}
		}
		all = append(all, x)
	}
}

func TestP1NoCallPanicsWithoutAnOrder(t *testing.T) {
	h := filled(nil, 3, 1, 2)
	h.Merge(filled(number, 9, 8))
	checkDrained(t, h, 3, 1, 2, 8, 9)
}

func TestP2HeapsMadeApart(t *testing.T) {
	h, o := filled(number, 3, 1), filled(number, 2)
	h.Push(5)
	o.Push(4)
	if x, ok := h.Pop(); x != 1 || !ok {
		t.Errorf("Pop is %d, %v", x, ok)
	}
	checkDrained(t, o, 2, 4)
	checkDrained(t, h, 3, 5)
}

func TestP2MergedHeapsAreApartAgain(t *testing.T) {
	h, o := New(number), filled(number, 1, 2, 3)
	h.Merge(o)
	o.Push(9)
	o.Push(8)
	h.Push(0)
	checkDrained(t, h, 0, 1, 2, 3)
	checkDrained(t, o, 8, 9)
}

func TestP2_1WhatWasPoppedIsNotKept(t *testing.T) {
	h := filled(func(a, b *one) bool { return a.key < b.key }, &one{1, 0}, &one{2, 0}, &one{3, 0})
	for h.Len() > 0 {
		h.Pop()
		for _, x := range h.items[len(h.items):cap(h.items)] {
			if x.thing != nil {
				t.Errorf("%v is behind the list yet", *x.thing)
			}
		}
	}
}

func TestWaysAGenericTypeWithAFunctionInAField(t *testing.T) {
	checkOrderField[int](t)
	checkOrderField[string](t)
}

func checkOrderField[T any](t *testing.T) {
	t.Helper()
	h := reflect.TypeFor[Heap[T]]()
	if !strings.Contains(h.Name(), "[") {
		t.Errorf("%s is no generic type's", h.Name())
	}
	for f := range h.Fields() {
		if f.Type == reflect.TypeFor[func(a, b T) bool]() {
			return
		}
	}
	t.Errorf("%s has no field of a function that tells what is less", h.Name())
}
