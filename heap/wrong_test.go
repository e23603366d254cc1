package heap

import (
	"math"
	"runtime/debug"
	"testing"

	"gradus/api"
)

// P1: arenas that New has not made have no cells, and no objects, whatever is asked.
func TestNoArena(t *testing.T) {
	for _, a := range []*Arena{nil, {}, new(Arena)} {
		for range 2 {
			r := newReading(0)
			holdWrong(t, a, r, api.ErrMemory)
			holdWrong(t, a, r, api.ErrMemory, num(0), num(1))
			for _, n := range []int{math.MinInt, -1, 0, 1, math.MaxInt} {
				holdNone(t, a, n)
				holdWrong(t, a, r, api.ErrArg, num(0), to(n))
				holdCollect(t, a, r, 0, n, n)
			}
			holdCollect(t, a, r, 0)
		}
	}
}

// P1: an Arena that was copied is still the same one.
func TestCopiedArena(t *testing.T) {
	a, r := New(60), newReading(60)
	other := *a
	c := chance(2463534242)
	var y tally
	seen := map[int]int{}
	for i := range 600 {
		one := a
		if i%3 == 0 {
			one = &other
		}
		if c.below(6) == 0 {
			anyCollect(t, &c, one, r, &y)
		} else {
			anyAlloc(t, &c, one, r, seen, &y)
		}
		holdAll(t, a, r)
		holdAll(t, &other, r)
	}
}

// P1: numbers that are no objects', in each call.
func TestWrongNumbers(t *testing.T) {
	a, r := New(30), newReading(30)
	x := holdMade(t, a, r, num(1))
	y := holdMade(t, a, r, to(x), num(math.MaxInt), num(math.MinInt))
	for _, n := range noObjects(a, r) {
		holdNone(t, a, n)
		holdWrong(t, a, r, api.ErrArg, to(x), to(n))
		holdCollect(t, a, r, 0, n, y, n)
	}
	holdCollect(t, a, r, 6, noObjects(a, r)...)
}

// P1: an arena with very many cells takes no room for those that are free, and none is counted wrong.
func TestVeryManyCells(t *testing.T) {
	for _, cells := range []int{1 << 32, 1 << 48, math.MaxInt - 1, math.MaxInt} {
		for range 100 {
			a, r := New(cells), newReading(cells)
			x := holdMade(t, a, r, some(100)...)
			holdMade(t, a, r, to(x))
			holdCollect(t, a, r, 2, x)
			holdMade(t, a, r, some(1000)...)
			holdCollect(t, a, r, 1102)
		}
	}
}

// P1, P16.3: a chain of very many objects takes little of Go's stack, which would else end the program.
func TestVeryLongChain(t *testing.T) {
	defer debug.SetMaxStack(debug.SetMaxStack(1 << 20))
	const many = 1 << 18
	a := New(2 * many)
	last, _ := a.Alloc([]api.Slot{num(0)})
	first := last
	for range many - 1 {
		n, e := a.Alloc([]api.Slot{to(last)})
		if e != api.OK {
			t.Fatal(e)
		}
		last = n
	}
	for range 2 {
		if got := a.Collect([]int{last}); got != 0 || a.Objects() != many {
			t.Fatal(got, a.Objects())
		}
	}
	if got := a.Collect([]int{first}); got != 2*many-2 || a.Used() != 2 {
		t.Fatal(got, a.Used())
	}
}

// P1: objects that each lead to the one before by both of their slots are gone into once each, not by all ways.
func TestVeryManyWays(t *testing.T) {
	const many = 1 << 16
	a := New(3 * many)
	last, _ := a.Alloc([]api.Slot{num(0), num(0)})
	for range many - 1 {
		last, _ = a.Alloc([]api.Slot{to(last), to(last)})
	}
	if got := a.Collect([]int{last, last}); got != 0 || a.Objects() != many || a.Used() != 3*many {
		t.Fatal(got, a.Objects(), a.Used())
	}
	if got := a.Collect(nil); got != 3*many {
		t.Fatal(got)
	}
}

// P1: one object with very many slots that all lead to one, at the end of chains of any length; very many roots.
func TestVeryManySlots(t *testing.T) {
	const many = 1 << 18
	for _, length := range []int{1, deepest - 2, deepest - 1, deepest, deepest + 1} {
		a := New(math.MaxInt)
		low, _ := a.Alloc(nil)
		l := make([]api.Slot, many)
		for i := range l {
			l[i] = to(low)
		}
		top, _ := a.Alloc(l)
		for range length {
			top, _ = a.Alloc([]api.Slot{to(top)})
		}
		roots := make([]int, many)
		for i := range roots {
			roots[i] = top
		}
		if got := a.Collect(roots); got != 0 || a.Objects() != length+2 {
			t.Fatal(length, got, a.Objects())
		}
		if got := a.Collect([]int{low}); got != many+1+2*length || a.Used() != 1 {
			t.Fatal(length, got, a.Used())
		}
	}
}

// P1: very many calls of Collect behind a great object that is gone: none goes over all cells that were ever in use.
func TestVeryManyCollects(t *testing.T) {
	const many = 1 << 20
	a := New(2 * many)
	a.Alloc(some(many))
	if got := a.Collect(nil); got != many+1 {
		t.Fatal(got)
	}
	x, _ := a.Alloc([]api.Slot{num(1)})
	for range 1 << 16 {
		a.Alloc([]api.Slot{to(x)})
		if got := a.Collect([]int{x}); got != 2 || a.Used() != 2 {
			t.Fatal(got, a.Used())
		}
	}
	if _, e := a.Alloc(some(2*many - 3)); e != api.OK || a.Used() != 2*many {
		t.Fatal(e, a.Used())
	}
	holdGet(t, a, x, num(1))
}
