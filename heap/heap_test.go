package heap

import (
	"math"
	"testing"

	"gradus/api"
)

// The chapter's example.
func TestExample(t *testing.T) {
	a, r := New(5), newReading(5)
	x := holdMade(t, a, r, num(7), num(8))
	holdMade(t, a, r, to(x))
	holdWrong(t, a, r, api.ErrMemory)
	holdCollect(t, a, r, 5)
	if a.Used() != 0 || a.Objects() != 0 {
		t.Error(a.Used(), a.Objects())
	}
}

// P16.1: an arena that is new has nothing in use, however many cells it has.
func TestNew(t *testing.T) {
	for _, cells := range []int{math.MinInt, -1 << 32, -2, -1, 0, 1, 2, 5, 1000, 1 << 32, math.MaxInt} {
		a := New(cells)
		holdAll(t, a, newReading(cells))
		holdCollect(t, a, newReading(cells), 0, 0, 1)
	}
}

// P16.1, P16.2: an object of n slots takes n + 1 cells: there is room for just one that takes all, and for none more.
func TestRoom(t *testing.T) {
	for _, cells := range []int{math.MinInt, -2, -1, 0, 1, 2, 3, 4, 5, 16, 17, 1000} {
		a, r := New(cells), newReading(cells)
		room := max(cells, 0)
		for n := room; n < room+4; n++ {
			holdWrong(t, a, r, api.ErrMemory, some(n)...)
		}
		holdWrong(t, a, r, api.ErrMemory, some(2*room+1)...)
		if room == 0 {
			continue
		}
		n := holdMade(t, a, r, some(room-1)...)
		if a.Used() != room || a.Objects() != 1 {
			t.Errorf("%d cells: %d in use", cells, a.Used())
		}
		holdWrong(t, a, r, api.ErrMemory)
		holdWrong(t, a, r, api.ErrMemory, to(n))
		holdAll(t, a, r)
	}
}

// P16.1, P16.2: what is made behind one another: Used and Objects behind each call, until there is no room.
func TestMany(t *testing.T) {
	for size := range 6 {
		for cells := range 40 {
			a, r := New(cells), newReading(cells)
			for i := range cells / (size + 1) {
				holdMade(t, a, r, some(size)...)
				if a.Used() != (i+1)*(size+1) || a.Objects() != i+1 {
					t.Fatalf("%d of %d: %d %d", i, size, a.Used(), a.Objects())
				}
			}
			holdWrong(t, a, r, api.ErrMemory, some(size)...)
			for cells-a.Used() > 0 {
				holdMade(t, a, r)
			}
			holdWrong(t, a, r, api.ErrMemory)
		}
	}
}

// P16.2: an object has its slots, in their order, with all that they have.
func TestSlots(t *testing.T) {
	a, r := New(100), newReading(100)
	x := holdMade(t, a, r)
	y := holdMade(t, a, r, num(math.MinInt), num(-1), num(0), num(1), num(x), num(math.MaxInt))
	z := holdMade(t, a, r, to(x), num(y), to(y), num(x), to(y), to(x), num(77))
	holdGet(t, a, x)
	holdGet(t, a, y, num(math.MinInt), num(-1), num(0), num(1), num(x), num(math.MaxInt))
	holdGet(t, a, z, to(x), num(y), to(y), num(x), to(y), to(x), num(77))
	holdAll(t, a, r)
}

// P16.2: a slot with Ref of a number that is no object's: of one below 0, of one too great, of one that is gone, of
// the one that would come next; wherever it stands.
func TestRefOfNone(t *testing.T) {
	a, r := New(100), newReading(100)
	x := holdMade(t, a, r, num(5), num(6))
	gone := holdMade(t, a, r, num(1), to(x))
	y := holdMade(t, a, r, to(x))
	holdCollect(t, a, r, 3, y)
	for _, n := range append(noObjects(a, r), gone) {
		for _, l := range [][]api.Slot{{to(n)}, {to(n), to(x)}, {to(x), to(n)}, {to(x), num(n), to(n), to(y)}, {to(n), to(n)}} {
			holdWrong(t, a, r, api.ErrArg, l...)
		}
		holdMade(t, a, r, num(n))
		holdCollect(t, a, r, 2, y)
	}
}

// noObjects are numbers that are no objects'.
func noObjects(a *Arena, r *reading) []int {
	var l []int
	for n := -3; n < 20; n++ {
		if _, is := r.objects[n]; !is {
			l = append(l, n)
		}
	}
	l = append(l, math.MinInt, math.MinInt+1, math.MaxInt, math.MaxInt-1, -1<<32, 1<<32)
	for _, n := range r.numbers() {
		l = append(l, n+1<<32, n-1<<32, n+math.MinInt)
	}
	return l
}

// P16.2: ErrArg ahead of ErrMemory where both are so, in arenas that are full and in such as have no cells.
func TestArgAheadOfMemory(t *testing.T) {
	for _, cells := range []int{-1, 0, 1, 2} {
		a, r := New(cells), newReading(cells)
		if cells > 0 {
			holdMade(t, a, r, some(cells-1)...)
		}
		for _, n := range noObjects(a, r) {
			holdWrong(t, a, r, api.ErrArg, to(n))
			holdWrong(t, a, r, api.ErrArg, append(some(9), to(n))...)
			holdWrong(t, a, r, api.ErrMemory, append(some(9), num(n))...)
		}
	}
}

// P16.2: Get of what is no object's number: of one that never was, of one of a slot's cell, of one that is gone.
func TestGetOfNone(t *testing.T) {
	a, r := New(50), newReading(50)
	var gone []int
	for i := range 5 {
		gone = append(gone, holdMade(t, a, r, some(i)...))
	}
	x := holdMade(t, a, r, some(6)...)
	holdCollect(t, a, r, 15, x)
	for _, n := range append(noObjects(a, r), gone...) {
		holdNone(t, a, n)
	}
	holdGet(t, a, x, some(6)...)
}
