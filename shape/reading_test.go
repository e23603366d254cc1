package shape

import (
	"slices"
	"testing"

	"gradus/api"
)

// reading is a second, plain reading of the chapter: all names of each shape, and shapes are found by their names (by
// P15.3 no two have the same ones in the same order).
type reading struct{ shapes [][]string }

func newReading() *reading { return &reading{[][]string{{}}} }

func (r *reading) has(s int) bool { return 0 <= s && s < len(r.shapes) }

func (r *reading) Len() int { return len(r.shapes) }

func (r *reading) Names(s int) []string {
	if !r.has(s) {
		return nil
	}
	return r.shapes[s]
}

func (r *reading) Slot(s int, name string) (int, bool) {
	for i, n := range r.Names(s) {
		if n == name {
			return i, true
		}
	}
	return 0, false
}

func (r *reading) Add(s int, name string) (int, api.Errno) {
	if !r.has(s) {
		return 0, api.ErrArg
	}
	if _, there := r.Slot(s, name); there {
		return s, api.OK
	}
	all := append(append([]string{}, r.shapes[s]...), name)
	for n, names := range r.shapes {
		if slices.Equal(names, all) {
			return n, api.OK
		}
	}
	r.shapes = append(r.shapes, all)
	return len(r.shapes) - 1, api.OK
}

// Of is read by names alone: those that stand again are left out, and all the shapes on the way are there.
func (r *reading) Of(names []string) (int, api.Errno) {
	s := 0
	for i, name := range names {
		if !slices.Contains(names[:i], name) {
			s, _ = r.Add(s, name)
		}
	}
	return s, api.OK
}

// holdAll holds all that a tree tells against the second reading, of shapes that there are and of some that there are
// not, and of all names that are in it and these more.
func holdAll(t *testing.T, tree *Tree, r *reading, more ...string) {
	t.Helper()
	if tree.Len() != r.Len() {
		t.Fatalf("%d shapes, not %d", tree.Len(), r.Len())
	}
	names := append([]string{}, more...)
	for _, l := range r.shapes {
		for _, name := range l {
			if !slices.Contains(names, name) {
				names = append(names, name)
			}
		}
	}
	for s := -2; s < r.Len()+3; s++ {
		holdNames(t, tree, s, r.Names(s)...)
		for _, name := range names {
			place, there := r.Slot(s, name)
			holdSlot(t, tree, s, name, place, there)
		}
	}
}

func holdNames(t *testing.T, tree *Tree, s int, want ...string) {
	t.Helper()
	if got := tree.Names(s); !slices.Equal(got, want) {
		t.Fatalf("Names(%d): %q, not %q", s, got, want)
	}
}

func holdSlot(t *testing.T, tree *Tree, s int, name string, want int, wantThere bool) {
	t.Helper()
	if got, there := tree.Slot(s, name); got != want || there != wantThere {
		t.Fatalf("Slot(%d, %q): %d %v, not %d %v", s, name, got, there, want, wantThere)
	}
}

func holdAdd(t *testing.T, tree *Tree, s int, name string, want int) {
	t.Helper()
	if got, e := tree.Add(s, name); got != want || e != api.OK {
		t.Fatalf("Add(%d, %q): %d %d, not %d", s, name, got, e, want)
	}
}

func holdOf(t *testing.T, tree *Tree, want int, names ...string) {
	t.Helper()
	if got, e := tree.Of(names); got != want || e != api.OK {
		t.Fatalf("Of(%q): %d %d, not %d", names, got, e, want)
	}
}

func holdLen(t *testing.T, tree *Tree, want int) {
	t.Helper()
	if got := tree.Len(); got != want {
		t.Fatalf("%d shapes, not %d", got, want)
	}
}
