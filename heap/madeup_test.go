package heap

import (
	"testing"

	"gradus/api"
)

// chance is numbers that come one after the other, the same ones each time.
type chance uint64

func (c *chance) below(n int) int {
	*c ^= *c << 13
	*c ^= *c >> 7
	*c ^= *c << 17
	return int(uint64(*c) >> 1 % uint64(n))
}

// step is a call: an Alloc of slots, each of which leads to one of the objects that were made (also if it is gone), or
// has a number; or a Collect of some of these objects.
type step struct {
	collect bool
	of      []int
}

// hasNumber is a slot of a step that leads to no object.
const hasNumber = -1

// smallSteps are all steps with at most two slots, and two objects that were made.
func smallSteps() []step {
	steps := []step{{}, {collect: true}, {collect: true, of: []int{0}}, {collect: true, of: []int{1}}, {collect: true, of: []int{0, 1}}}
	for x := hasNumber; x < 2; x++ {
		steps = append(steps, step{of: []int{x}})
		for y := hasNumber; y < 2; y++ {
			steps = append(steps, step{of: []int{x, y}})
		}
	}
	return steps
}

// do makes a step; met are all objects that were made.
func (s step) do(t *testing.T, a *Arena, r *reading, met []int) []int {
	t.Helper()
	var roots []int
	var l []api.Slot
	for _, i := range s.of {
		n := hasNumber
		if i >= 0 && i < len(met) {
			n = met[i]
		}
		roots = append(roots, n)
		l = append(l, api.Slot{Ref: i >= 0, N: n})
	}
	if s.collect {
		want := r.Collect(roots)
		if got := a.Collect(roots); got != want {
			t.Fatalf("Collect(%v): %d, not %d", roots, got, want)
		}
		if again := a.Collect(roots); again != 0 {
			t.Fatalf("a second Collect(%v): %d", roots, again)
		}
	} else if n, e := holdAlloc(t, a, r, l...); e == api.OK {
		met = append(met, n)
	}
	holdAll(t, a, r)
	return met
}

// P16.1 to P16.4: all short sequences of calls with few slots, in small arenas.
func TestSmallArenas(t *testing.T) {
	steps := smallSteps()
	var met int
	for _, cells := range []int{0, 1, 2, 3, 5, 7} {
		for first := range steps {
			for second := range steps {
				for third := range steps {
					for fourth := range steps {
						a, r := New(cells), newReading(cells)
						var made []int
						for _, i := range []int{first, second, third, fourth} {
							made = steps[i].do(t, a, r, made)
						}
						met++
					}
				}
			}
		}
	}
	if met < 500000 {
		t.Error(met)
	}
}

// tally is how many of what was looked out for came up.
type tally struct{ made, again, wrong, full, some, all, none, great int }

// pick is one of some numbers, or now and then one that is none of them.
func pick(c *chance, l []int) int {
	if len(l) == 0 || c.below(30) == 0 {
		return c.below(300) - 20
	}
	return l[c.below(len(l))]
}

func anyAlloc(t *testing.T, c *chance, a *Arena, r *reading, seen map[int]int, y *tally) {
	t.Helper()
	numbers, l := r.numbers(), []api.Slot{}
	for range c.below(2 + c.below(12)) {
		l = append(l, api.Slot{Ref: c.below(2) == 0, N: pick(c, numbers)})
	}
	n, e := holdAlloc(t, a, r, l...)
	switch e {
	case api.ErrArg:
		y.wrong++
	case api.ErrMemory:
		y.full++
	default:
		y.made++
		y.again += seen[n]
		seen[n] = 1
		if len(l) > 8 {
			y.great++
		}
	}
}

func anyCollect(t *testing.T, c *chance, a *Arena, r *reading, y *tally) {
	t.Helper()
	var roots []int
	numbers := r.numbers()
	for range c.below(1 + len(numbers)) {
		roots = append(roots, pick(c, numbers))
	}
	want := r.Collect(roots)
	if got := a.Collect(roots); got != want {
		t.Fatalf("Collect(%v): %d, not %d", roots, got, want)
	}
	if again := a.Collect(roots); again != 0 {
		t.Fatalf("a second Collect(%v): %d", roots, again)
	}
	switch {
	case want == 0:
		y.none++
	case len(r.objects) == 0:
		y.all++
	default:
		y.some++
	}
}

// P16.1 to P16.4: any calls on one arena, held against the second reading.
func TestAnyCalls(t *testing.T) {
	c := chance(362436069)
	var y tally
	for range 500 {
		cells := c.below(250)
		a, r := New(cells), newReading(cells)
		seen := map[int]int{}
		for range 150 {
			if c.below(8) == 0 {
				anyCollect(t, &c, a, r, &y)
			} else {
				anyAlloc(t, &c, a, r, seen, &y)
			}
			holdAll(t, a, r)
		}
	}
	if min(y.made, y.again, y.wrong, y.full, y.some, y.all, y.none, y.great) < 300 {
		t.Errorf("%+v", y)
	}
}

// P16.2: two arenas side by side have nothing to do with each other.
func TestTwoArenas(t *testing.T) {
	c := chance(88172645463325252)
	var y tally
	for range 60 {
		arenas := []*Arena{New(100), New(150)}
		readings := []*reading{newReading(100), newReading(150)}
		seen := []map[int]int{{}, {}}
		for range 120 {
			i := c.below(2)
			if c.below(8) == 0 {
				anyCollect(t, &c, arenas[i], readings[i], &y)
			} else {
				anyAlloc(t, &c, arenas[i], readings[i], seen[i], &y)
			}
			holdAll(t, arenas[0], readings[0])
			holdAll(t, arenas[1], readings[1])
		}
	}
	if min(y.made, y.again, y.full, y.some) < 100 {
		t.Errorf("%+v", y)
	}
}
