package heap

import (
	"slices"
	"testing"

	"gradus/api"
)

// spoilt is what stands in lists that the caller has changed.
var spoilt = api.Slot{Ref: true, N: 1 << 40}

// R3: Alloc leaves the list as it was, with what is behind it, and keeps none of it.
func TestAllocKeepsNothing(t *testing.T) {
	for _, size := range []int{0, 1, 2, 3, 17, 1000} {
		a, r := New(1<<20), newReading(1<<20)
		x := holdMade(t, a, r)
		behind := some(size + 5)
		for i := 0; i < size; i += 3 {
			behind[i] = to(x)
		}
		before := slices.Clone(behind)
		n, e := a.Alloc(behind[:size])
		if e != api.OK || !slices.Equal(behind, before) {
			t.Fatalf("%d: %v has become %v", e, before, behind)
		}
		for i := range behind {
			behind[i] = spoilt
		}
		holdGet(t, a, n, before[:size]...)
		if gone := a.Collect([]int{n}); gone != (3-min(size, 3))/3 {
			t.Errorf("%d slots: %d", size, gone)
		}
		holdGet(t, a, n, before[:size]...)
	}
}

// R3: what is handed in stays as it was, also where it is refused.
func TestRefusedStays(t *testing.T) {
	for _, l := range [][]api.Slot{{num(1), to(5)}, {num(1), num(2), num(3), num(4)}} {
		before := slices.Clone(l)
		a := New(3)
		if _, e := a.Alloc(l); e == api.OK || !slices.Equal(l, before) {
			t.Errorf("%d: %v has become %v", e, before, l)
		}
	}
}

// R3: Collect leaves the roots as they were, with what is behind them, and keeps none of them.
func TestCollectKeepsNothing(t *testing.T) {
	a := New(4 * 5000)
	numbers := chain(t, a, 5000)
	for _, keep := range []int{4000, 3 * deepest, deepest + 1, 7} {
		behind := []int{-1, numbers[keep-1], numbers[0], numbers[keep/2], numbers[keep/2], 1 << 40, 5, 6, 7}
		before := slices.Clone(behind)
		a.Collect(behind[:6])
		if !slices.Equal(behind, before) {
			t.Errorf("%v have become %v", before, behind)
		}
		for i := range behind {
			behind[i] = numbers[0]
		}
		if a.Objects() != keep || a.Used() != 4*keep {
			t.Errorf("%d objects, not %d", a.Objects(), keep)
		}
	}
}

// R3: what Get answers is the caller's own, also what he puts behind it.
func TestGetIsOwn(t *testing.T) {
	a, r := New(200), newReading(200)
	x := holdMade(t, a, r)
	for size := range 12 {
		l := some(size)
		for i := 1; i < size; i += 2 {
			l[i] = to(x)
		}
		x = holdMade(t, a, r, l...)
	}
	for range 3 {
		for _, n := range r.numbers() {
			one, _ := a.Get(n)
			other, _ := a.Get(n)
			for i := range one {
				one[i] = spoilt
			}
			if !slices.Equal(other, r.objects[n]) {
				t.Fatalf("%v, not %v", other, r.objects[n])
			}
			for _, l := range [][]api.Slot{one[:cap(one)], append(other, spoilt)} {
				for i := range l {
					l[i] = spoilt
				}
			}
		}
		holdAll(t, a, r)
		holdCollect(t, a, r, 0, r.numbers()...)
	}
}

// R3: what Get has answered stays as it was when its object is gone and its cells are another's.
func TestGetStays(t *testing.T) {
	a, r := New(8), newReading(8)
	n := holdMade(t, a, r, num(1), num(2), num(3))
	l, _ := a.Get(n)
	holdCollect(t, a, r, 4)
	holdMade(t, a, r, num(9), num(9), num(9), num(9), num(9), num(9), num(9))
	if !slices.Equal(l, []api.Slot{num(1), num(2), num(3)}) {
		t.Error(l)
	}
}
