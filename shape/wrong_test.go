package shape

import (
	"fmt"
	"math"
	"testing"

	"gradus/api"
)

func wrongNumbers(tree *Tree) []int {
	n := tree.Len()
	return []int{-1, -2, -n, math.MinInt, math.MinInt + 1, n, n + 1, 2 * n, 1 << 32, -1 << 32, math.MaxInt, math.MaxInt - 1, n - 1 + 1<<32, n - 1 - 1<<32}
}

// P15.2: ErrArg of what is no shape, also of a name that others have; nothing is added by it.
func TestAddToNoShape(t *testing.T) {
	tree, r := New(), newReading()
	tree.Of([]string{"a", "b"})
	r.Of([]string{"a", "b"})
	for _, s := range wrongNumbers(tree) {
		for _, name := range []string{"", "a", "b", "c"} {
			if got, e := tree.Add(s, name); got != 0 || e != api.ErrArg {
				t.Errorf("Add(%d, %q): %d %d", s, name, got, e)
			}
		}
	}
	holdAll(t, tree, r, "", "c")
	holdAdd(t, tree, 2, "c", 3)
}

// P1: trees that New has not made.
func TestNoTree(t *testing.T) {
	for _, tree := range []*Tree{nil, {}, new(Tree)} {
		for range 2 {
			holdLen(t, tree, 0)
			for _, s := range []int{-1, 0, 1, math.MaxInt, math.MinInt} {
				holdNames(t, tree, s)
				holdSlot(t, tree, s, "a", 0, false)
				if got, e := tree.Add(s, "a"); got != 0 || e != api.ErrArg {
					t.Errorf("Add(%d): %d %d", s, got, e)
				}
			}
			if got, e := tree.Of([]string{"a", "b"}); got != 0 || e != api.ErrArg {
				t.Errorf("Of: %d %d", got, e)
			}
			if got, _ := tree.Of(nil); got != 0 {
				t.Errorf("Of no names: %d", got)
			}
		}
	}
}

// P1: a Tree that was copied is still the same tree.
func TestCopiedTree(t *testing.T) {
	tree, r := New(), newReading()
	other := *tree
	for i := range 50 {
		one := tree
		if i%3 == 0 {
			one = &other
		}
		want, _ := r.Add(i/2, fmt.Sprint("n", i%7))
		holdAdd(t, one, i/2, fmt.Sprint("n", i%7), want)
	}
	holdAll(t, tree, r)
	holdAll(t, &other, r)
}

// P1: very many names, and the same name at each shape of very many; each call ends soon.
func TestVeryManyNames(t *testing.T) {
	const many = 1 << 16
	names := make([]string, many)
	for i := range names {
		names[i] = fmt.Sprint(i)
	}
	tree := New()
	holdOf(t, tree, many, names...)
	holdOf(t, tree, many, append(names, names...)...)
	for s := range many {
		holdAdd(t, tree, s, "x", many+1+s)
		holdSlot(t, tree, many+1+s, "x", s, true)
	}
	for s := range many {
		holdSlot(t, tree, s, "x", 0, false)
		holdSlot(t, tree, many, names[s], s, true)
		holdAdd(t, tree, many, names[s], many)
		holdAdd(t, tree, s, "x", many+1+s)
	}
	for s := 1; s <= many; s *= 2 {
		holdNames(t, tree, s, names[:s]...)
		holdNames(t, tree, many+s, append(append([]string{}, names[:s-1]...), "x")...)
	}
	holdLen(t, tree, 2*many+1)
}
