package heap

import (
	"slices"
	"testing"

	"gradus/api"
)

// reading is a second, plain reading of the chapter: all slots of each object there is, by its number. Which number a
// new object has is the arena's affair, so that it is handed in.
type reading struct {
	cells   int
	objects map[int][]api.Slot
}

func newReading(cells int) *reading {
	return &reading{max(cells, 0), map[int][]api.Slot{}}
}

func (r *reading) Used() int {
	sum := 0
	for _, l := range r.objects {
		sum += len(l) + 1
	}
	return sum
}

// May is what Alloc of these slots has to tell.
func (r *reading) May(l []api.Slot) api.Errno {
	for _, s := range l {
		if _, is := r.objects[s.N]; s.Ref && !is {
			return api.ErrArg
		}
	}
	if r.cells-r.Used() < len(l)+1 {
		return api.ErrMemory
	}
	return api.OK
}

// Collect goes over all objects again and again, until none more is found to stay.
func (r *reading) Collect(roots []int) int {
	before, stay := r.Used(), map[int][]api.Slot{}
	keep := func(n int) bool {
		l, is := r.objects[n]
		_, there := stay[n]
		if is && !there {
			stay[n] = l
		}
		return is && !there
	}
	for _, n := range roots {
		keep(n)
	}
	for more := true; more; {
		more = false
		for n := range r.objects {
			if l, there := stay[n]; there {
				for _, s := range l {
					more = s.Ref && keep(s.N) || more
				}
			}
		}
	}
	r.objects = stay
	return before - r.Used()
}

// numbers are those of all objects, rising.
func (r *reading) numbers() []int {
	var l []int
	for n := range r.objects {
		l = append(l, n)
	}
	slices.Sort(l)
	return l
}

// holdAlloc makes an object in both, or in none.
func holdAlloc(t *testing.T, a *Arena, r *reading, l ...api.Slot) (int, api.Errno) {
	t.Helper()
	want := r.May(l)
	n, e := a.Alloc(l)
	if e != want {
		t.Fatalf("Alloc(%v) in %v: %d, not %d", l, r.objects, e, want)
	}
	if e != api.OK {
		if n != 0 {
			t.Fatalf("Alloc(%v): %d beside the error %d", l, n, e)
		}
		return 0, e
	}
	if _, is := r.objects[n]; n < 0 || is {
		t.Fatalf("Alloc(%v): %d, where there is %v", l, n, r.objects)
	}
	r.objects[n] = slices.Clone(l)
	return n, e
}

// holdMade is holdAlloc of what has to be made.
func holdMade(t *testing.T, a *Arena, r *reading, l ...api.Slot) int {
	t.Helper()
	n, e := holdAlloc(t, a, r, l...)
	if e != api.OK {
		t.Fatalf("Alloc(%v): %d", l, e)
	}
	holdCounts(t, a, r)
	holdGet(t, a, n, l...)
	return n
}

// holdWrong is an Alloc that is refused, and turns nothing.
func holdWrong(t *testing.T, a *Arena, r *reading, want api.Errno, l ...api.Slot) {
	t.Helper()
	if _, e := holdAlloc(t, a, r, l...); e != want {
		t.Fatalf("Alloc(%v): %d, not %d", l, e, want)
	}
	holdAll(t, a, r)
}

// holdCollect is a Collect in both; want is worked out by hand.
func holdCollect(t *testing.T, a *Arena, r *reading, want int, roots ...int) {
	t.Helper()
	if read := r.Collect(roots); read != want {
		t.Fatalf("the second reading of Collect(%v): %d, not %d", roots, read, want)
	}
	if got := a.Collect(roots); got != want {
		t.Fatalf("Collect(%v): %d, not %d", roots, got, want)
	}
	holdAll(t, a, r)
}

func holdCounts(t *testing.T, a *Arena, r *reading) {
	t.Helper()
	if got, want := a.Used(), r.Used(); got != want {
		t.Fatalf("Used: %d, not %d", got, want)
	}
	if got, want := a.Objects(), len(r.objects); got != want {
		t.Fatalf("Objects: %d, not %d", got, want)
	}
}

func holdGet(t *testing.T, a *Arena, n int, want ...api.Slot) {
	t.Helper()
	if got, is := a.Get(n); !is || !slices.Equal(got, want) {
		t.Fatalf("Get(%d): %v %v, not %v", n, got, is, want)
	}
}

func holdNone(t *testing.T, a *Arena, n int) {
	t.Helper()
	if got, is := a.Get(n); is || len(got) > 0 {
		t.Fatalf("Get(%d): %v %v, which is no object", n, got, is)
	}
}

// holdAll holds all that an arena tells, of all objects and of numbers that are none's.
func holdAll(t *testing.T, a *Arena, r *reading) {
	t.Helper()
	holdCounts(t, a, r)
	highest := 0
	for n, l := range r.objects {
		holdGet(t, a, n, l...)
		highest = max(highest, n)
	}
	for n := -3; n < highest+4; n++ {
		if _, is := r.objects[n]; !is {
			holdNone(t, a, n)
		}
	}
}

// num is a slot with a number, to one that leads to an object.
func num(n int) api.Slot { return api.Slot{N: n} }

func to(n int) api.Slot { return api.Slot{Ref: true, N: n} }

// some are so many slots with numbers.
func some(n int) []api.Slot {
	l := make([]api.Slot, n)
	for i := range l {
		l[i].N = i - 1
	}
	return l
}
