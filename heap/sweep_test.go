package heap

import (
	"math"
	"slices"
	"testing"

	"gradus/api"
)

// P16.3: Collect of no roots, of roots that are no objects', of a root given twice, of all.
func TestRoots(t *testing.T) {
	for _, c := range []struct {
		want int
		pick func(n []int) []int
	}{
		{6, func(n []int) []int { return nil }},
		{6, func(n []int) []int { return []int{} }},
		{6, func(n []int) []int { return []int{-1, 77, math.MinInt, math.MaxInt, n[2] + 1<<32, n[0] - 1<<32} }},
		{5, func(n []int) []int { return []int{n[0]} }},
		{4, func(n []int) []int { return []int{n[1], n[1]} }},
		{4, func(n []int) []int { return []int{-1, n[1], math.MaxInt, n[1], -7, n[1]} }},
		{3, func(n []int) []int { return []int{n[2]} }},
		{3, func(n []int) []int { return []int{n[0], n[1]} }},
		{1, func(n []int) []int { return []int{n[2], n[1]} }},
		{0, func(n []int) []int { return n }},
		{0, func(n []int) []int { return []int{n[2], n[2], n[0], n[1], n[0]} }},
	} {
		a, r := New(6), newReading(6)
		n := []int{holdMade(t, a, r), holdMade(t, a, r, num(0)), holdMade(t, a, r, num(1), num(2))}
		holdCollect(t, a, r, c.want, c.pick(n)...)
		// P16.4: a second Collect of the same roots.
		holdCollect(t, a, r, 0, c.pick(n)...)
		if c.want > 0 {
			holdMade(t, a, r, some(c.want-1)...)
		}
		holdWrong(t, a, r, api.ErrMemory)
	}
}

// P16.3: what a slot with Ref leads to stays, what a slot without it has the number of does not.
func TestRefsAndNumbers(t *testing.T) {
	a, r := New(20), newReading(20)
	x, y, z := holdMade(t, a, r), holdMade(t, a, r, num(3)), holdMade(t, a, r, num(4), num(5))
	top := holdMade(t, a, r, num(x), to(y), num(z))
	holdCollect(t, a, r, 4, top)
	holdGet(t, a, y, num(3))
	holdGet(t, a, top, num(x), to(y), num(z))
	holdNone(t, a, x)
	holdNone(t, a, z)
}

// P16.3: objects reached by each of many slots, by the first or the last alone, by one in several slots.
func TestReachedByAnySlot(t *testing.T) {
	for size := 1; size < 12; size++ {
		for place := range size {
			a, r := New(100), newReading(100)
			other, x := holdMade(t, a, r, num(1)), holdMade(t, a, r, num(2), num(3))
			l := some(size)
			l[place] = to(x)
			top := holdMade(t, a, r, l...)
			holdCollect(t, a, r, 2, top)
			holdNone(t, a, other)
			holdCollect(t, a, r, size+1, x)
			holdGet(t, a, x, num(2), num(3))
		}
		a, r := New(100), newReading(100)
		var l, same []api.Slot
		for i := range size {
			l = append(l, to(holdMade(t, a, r, num(i))))
			same = append(same, l[0])
		}
		top, twice := holdMade(t, a, r, l...), holdMade(t, a, r, same...)
		holdCollect(t, a, r, 0, top, twice)
		holdCollect(t, a, r, size+1, top)
		twice = holdMade(t, a, r, same...)
		holdCollect(t, a, r, size+1+2*(size-1), twice)
	}
}

// P16.3: objects reached by two ways, of which one goes away, or both.
func TestTwoWays(t *testing.T) {
	build := func() (*Arena, *reading, []int) {
		a, r := New(40), newReading(40)
		low := holdMade(t, a, r, num(1))
		left, right := holdMade(t, a, r, to(low), num(2)), holdMade(t, a, r, num(3), to(low))
		top := holdMade(t, a, r, to(left), to(right), to(low))
		return a, r, []int{low, left, right, top}
	}
	for _, c := range []struct {
		want  int
		roots []int
	}{{0, []int{3}}, {0, []int{3, 0}}, {4, []int{1, 2}}, {7, []int{1}}, {7, []int{2}}, {7, []int{2, 0}}, {10, []int{0}}, {12, nil}} {
		a, r, n := build()
		var roots []int
		for _, i := range c.roots {
			roots = append(roots, n[i])
		}
		holdCollect(t, a, r, c.want, roots...)
		holdCollect(t, a, r, 0, roots...)
	}
}

// chain makes objects that each lead to the one before, and answers their numbers.
func chain(t *testing.T, a *Arena, many int) []int {
	t.Helper()
	numbers := make([]int, many)
	for i := range numbers {
		l := []api.Slot{num(i), to(0), num(-i)}
		if i > 0 {
			l[1] = to(numbers[i-1])
		} else {
			l[1] = num(0)
		}
		n, e := a.Alloc(l)
		if e != api.OK {
			t.Fatal(i, e)
		}
		numbers[i] = n
	}
	return numbers
}

// P16.3: chains of all lengths around those at which the marking is put off, with the root at the end or within.
func TestChains(t *testing.T) {
	for _, many := range []int{1, 2, 3, 100, deepest - 1, deepest, deepest + 1, deepest + 2, 2*deepest + 1, 3*deepest + 5} {
		a := New(4 * many)
		numbers := chain(t, a, many)
		for _, keep := range []int{many, max(many-1, 1), max(many/2, 1), 1} {
			want := a.Used() - 4*keep
			if got := a.Collect([]int{numbers[keep-1]}); got != want || a.Used() != 4*keep || a.Objects() != keep {
				t.Fatalf("%d of %d: %d, not %d; %d %d", keep, many, got, want, a.Used(), a.Objects())
			}
			for i, n := range numbers[:keep] {
				l, is := a.Get(n)
				if !is || len(l) != 3 || l[0] != num(i) || l[2] != num(-i) || i > 0 && l[1] != to(numbers[i-1]) {
					t.Fatalf("%d of %d: %v %v", i, keep, l, is)
				}
			}
			if got := a.Collect([]int{numbers[keep-1]}); got != 0 {
				t.Fatalf("again: %d", got)
			}
		}
	}
}

// P16.3: what stays keeps its number and its slots while others go and come, and numbers are given anew.
func TestStaysWhatItWas(t *testing.T) {
	const cells = 60
	a, r := New(cells), newReading(cells)
	x := holdMade(t, a, r, num(11), num(12))
	y := holdMade(t, a, r, to(x), num(13), to(x))
	for round := range 200 {
		var last int
		for size := 0; cells-a.Used() > 0; size = (size + 1 + round%3) % 5 {
			last = holdMade(t, a, r, some(min(size, cells-a.Used()-1))...)
		}
		holdWrong(t, a, r, api.ErrMemory)
		holdCollect(t, a, r, cells-7, y)
		holdNone(t, a, last)
		holdGet(t, a, x, num(11), num(12))
		holdGet(t, a, y, to(x), num(13), to(x))
	}
}

// P16.4: the cells of many small objects that are gone, between such as stay, are made into one great object, and the
// other way round.
func TestManyIntoOne(t *testing.T) {
	const cells = 300
	a, r := New(cells), newReading(cells)
	var stay []int
	for round := range 30 {
		var small []int
		for i := 0; cells-a.Used() >= 3; i++ {
			small = append(small, holdMade(t, a, r, some(i%3)...))
		}
		for cells-a.Used() > 0 {
			holdMade(t, a, r)
		}
		stay = append(stay, small[round%len(small)])
		before := r.Used()
		gone := r.Collect(stay)
		if got := a.Collect(stay); got != gone || before-gone != a.Used() {
			t.Fatal(got, gone, a.Used())
		}
		holdAll(t, a, r)
		great := holdMade(t, a, r, some(cells-a.Used()-1)...)
		holdWrong(t, a, r, api.ErrMemory)
		holdCollect(t, a, r, 0, append(slices.Clone(stay), great)...)
		holdCollect(t, a, r, len(r.objects[great])+1, stay...)
	}
}
