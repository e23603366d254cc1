package shape

import (
	"fmt"
	"slices"
	"strings"
	"testing"

	"gradus/api"
)

// The chapter's example.
func TestExample(t *testing.T) {
	tree := New()
	holdAdd(t, tree, 0, "a", 1)
	holdAdd(t, tree, 1, "b", 2)
	holdAdd(t, tree, 0, "b", 3)
	holdAdd(t, tree, 0, "a", 1)
	holdAdd(t, tree, 2, "a", 2)
	holdSlot(t, tree, 2, "b", 1, true)
	holdLen(t, tree, 4)
	for s, want := range [][]string{{}, {"a"}, {"a", "b"}, {"b"}} {
		holdNames(t, tree, s, want...)
	}
}

// P15.1: a new tree has one shape, which has no names.
func TestNewTree(t *testing.T) {
	tree := New()
	holdLen(t, tree, 1)
	holdNames(t, tree, 0)
	holdSlot(t, tree, 0, "", 0, false)
	holdSlot(t, tree, 0, "a", 0, false)
	holdAll(t, tree, newReading(), "", "a")
}

// P15.1, P15.2: numbers are in the order in which shapes came, whichever shape they are made of.
func TestNumbers(t *testing.T) {
	tree := New()
	for want, c := range []struct {
		s    int
		name string
	}{{0, "a"}, {0, "b"}, {2, "a"}, {1, "b"}, {0, "c"}, {4, "c"}, {5, "a"}, {2, "c"}, {3, "d"}} {
		holdLen(t, tree, want+1)
		holdAdd(t, tree, c.s, c.name, want+1)
	}
	for s, want := range []string{"", "a", "b", "ba", "ab", "c", "abc", "ca", "bc", "bad"} {
		holdNames(t, tree, s, strings.Split(want, "")...)
	}
}

// P15.2: Add of a name that the shape has, wherever it stands in it, is the shape itself.
func TestAddOfOwnName(t *testing.T) {
	tree := New()
	holdOf(t, tree, 4, "a", "b", "c", "d")
	for s := 1; s <= 4; s++ {
		for i := range s {
			holdAdd(t, tree, s, string(rune('a'+i)), s)
		}
	}
	holdLen(t, tree, 5)
}

// P15.2: Add of a name that was added before is the shape that was answered then, also when others came between.
func TestAddAgain(t *testing.T) {
	tree := New()
	holdAdd(t, tree, 0, "a", 1)
	holdAdd(t, tree, 0, "b", 2)
	holdAdd(t, tree, 1, "c", 3)
	holdAdd(t, tree, 2, "c", 4)
	for range 3 {
		holdAdd(t, tree, 2, "c", 4)
		holdAdd(t, tree, 1, "c", 3)
		holdAdd(t, tree, 0, "b", 2)
		holdAdd(t, tree, 0, "a", 1)
	}
	holdLen(t, tree, 5)
	holdAdd(t, tree, 0, "c", 5)
}

// P15.2, P15.3: the same name added to two shapes makes two; each has its own place for it.
func TestSameNameOfTwo(t *testing.T) {
	tree := New()
	holdAdd(t, tree, 0, "a", 1)
	holdAdd(t, tree, 1, "b", 2)
	holdAdd(t, tree, 0, "x", 3)
	holdAdd(t, tree, 1, "x", 4)
	holdAdd(t, tree, 2, "x", 5)
	for s, want := range map[int]int{3: 0, 4: 1, 5: 2} {
		holdSlot(t, tree, s, "x", want, true)
	}
	for s := range 3 {
		holdSlot(t, tree, s, "x", 0, false)
	}
}

// P15.3: the same names in another order are another shape, in the same order they are the same one.
func TestOrder(t *testing.T) {
	tree := New()
	holdOf(t, tree, 3, "a", "b", "c")
	holdOf(t, tree, 5, "a", "c", "b")
	holdOf(t, tree, 8, "b", "a", "c")
	holdOf(t, tree, 10, "b", "c", "a")
	holdOf(t, tree, 13, "c", "a", "b")
	holdOf(t, tree, 15, "c", "b", "a")
	holdOf(t, tree, 3, "a", "b", "c")
	holdAdd(t, tree, 2, "c", 3)
	holdAdd(t, tree, 14, "a", 15)
	holdOf(t, tree, 13, "c", "a", "b")
	holdLen(t, tree, 16)
}

// P15.2: Of no names is 0; of names twice it is the shape of each once, where it first stands.
func TestOf(t *testing.T) {
	tree := New()
	holdOf(t, tree, 0)
	if s, e := tree.Of([]string{}); s != 0 || e != api.OK {
		t.Error(s, e)
	}
	holdLen(t, tree, 1)
	holdOf(t, tree, 1, "a", "a")
	holdOf(t, tree, 2, "a", "b", "a")
	holdOf(t, tree, 3, "a", "b", "b", "a", "c", "a", "b", "c", "c")
	holdLen(t, tree, 4)
	// The first ones were added before.
	holdOf(t, tree, 2, "a", "b")
	holdOf(t, tree, 4, "a", "b", "d")
	holdOf(t, tree, 6, "a", "d", "b")
	holdOf(t, tree, 0)
	holdLen(t, tree, 7)
	holdNames(t, tree, 6, "a", "d", "b")
}

// P15.1: Names and Slot of what is no shape, and of names that a shape has not.
func TestNoSuch(t *testing.T) {
	tree := New()
	holdOf(t, tree, 2, "a", "b")
	holdAdd(t, tree, 0, "c", 3)
	for _, s := range wrongNumbers(tree) {
		holdNames(t, tree, s)
		for _, name := range []string{"", "a", "b", "c", "d"} {
			holdSlot(t, tree, s, name, 0, false)
		}
	}
	for _, c := range []struct {
		s    int
		name string
	}{{0, "a"}, {0, "b"}, {0, "c"}, {1, "b"}, {1, "c"}, {2, "c"}, {3, "a"}, {3, "b"}, {2, "d"}, {2, ""}, {2, "ab"}} {
		holdSlot(t, tree, c.s, c.name, 0, false)
	}
	holdLen(t, tree, 4)
	// What was only asked for has no number and no place later on.
	holdAdd(t, tree, 2, "d", 4)
	holdSlot(t, tree, 4, "d", 2, true)
}

// P15.3: a name has the same place in a shape and in all that were made of it.
func TestSlotsStay(t *testing.T) {
	tree := New()
	holdOf(t, tree, 3, "a", "b", "c")
	made := []int{3}
	for i := range 40 {
		for _, s := range append([]int{}, made...) {
			if len(made) < 400 {
				n, _ := tree.Add(s, fmt.Sprint("n", i, s%2))
				made = append(made, n)
			}
		}
	}
	for _, s := range made {
		for i, name := range []string{"a", "b", "c"} {
			holdSlot(t, tree, s, name, i, true)
		}
		for i, name := range tree.Names(s) {
			holdSlot(t, tree, s, name, i, true)
		}
	}
}

// P15.1 to P15.3: names of any bytes; no two names or shapes are taken for one.
func TestAnyNames(t *testing.T) {
	long := strings.Repeat("long", 1<<14)
	names := []string{"", "a", "aa", "aaa", "b", "ab", "ba", "A", " ", "a ", " a", "\x00", "a\x00", "\x00a", "\xff", "\xfe\xff", "\u00e9", "e\u0301", "e", ",", "a,b", "0", "1", "10", "01", "let", "\n", long, long + "a", "a" + long, long[1:]}
	tree, r := New(), newReading()
	for _, x := range names {
		for _, y := range names {
			want, _ := r.Of([]string{x, y})
			holdOf(t, tree, want, x, y)
		}
	}
	holdAll(t, tree, r)
	if want := 1 + len(names)*len(names); tree.Len() != want {
		t.Errorf("%d shapes, not %d", tree.Len(), want)
	}
}

// P15.2, P15.3: numbers and names that are alike when they are put together.
func TestPartsPutTogether(t *testing.T) {
	tree, r := New(), newReading()
	for i := range 25 {
		want, _ := r.Add(0, fmt.Sprint(i))
		holdAdd(t, tree, 0, fmt.Sprint(i), want)
	}
	for s := range 26 {
		for i := range 120 {
			want, _ := r.Add(s, fmt.Sprint(i))
			holdAdd(t, tree, s, fmt.Sprint(i), want)
		}
	}
	holdAll(t, tree, r)
	for _, pairs := range [][]string{{"ab", "c", "a", "bc"}, {"", "ab", "ab", ""}, {"a,b", "c", "a", "b,c"}} {
		tree := New()
		holdOf(t, tree, 2, pairs[0], pairs[1])
		holdOf(t, tree, 4, pairs[2], pairs[3])
	}
}

// Two trees have nothing to do with each other.
func TestTwoTrees(t *testing.T) {
	a, b := New(), New()
	holdAdd(t, a, 0, "a", 1)
	holdAdd(t, a, 1, "b", 2)
	holdLen(t, b, 1)
	holdNames(t, b, 1)
	holdSlot(t, b, 0, "a", 0, false)
	if s, e := b.Add(1, "b"); s != 0 || e != api.ErrArg {
		t.Error(s, e)
	}
	holdAdd(t, b, 0, "b", 1)
	holdAdd(t, b, 1, "a", 2)
	holdAdd(t, b, 2, "c", 3)
	holdNames(t, a, 2, "a", "b")
	holdNames(t, b, 2, "b", "a")
	holdLen(t, a, 3)
	holdSlot(t, a, 2, "a", 0, true)
	holdSlot(t, b, 2, "a", 1, true)
	holdAdd(t, a, 0, "b", 3)
	holdNames(t, b, 3, "b", "a", "c")
}

// P15.1 to P15.3: shapes with more names than one list of theirs has, which part at each of their names.
func TestManyNames(t *testing.T) {
	tree, r := New(), newReading()
	chain := []int{0}
	for i := range 3*most + 2 {
		s := chain[len(chain)-1]
		want, _ := r.Add(s, fmt.Sprint("n", i))
		holdAdd(t, tree, s, fmt.Sprint("n", i), want)
		chain = append(chain, want)
	}
	for _, s := range slices.Backward(chain) {
		for _, name := range []string{"x", "y", "n0", "n20"} {
			want, _ := r.Add(s, name)
			holdAdd(t, tree, s, name, want)
			more, _ := r.Add(want, "z")
			holdAdd(t, tree, want, "z", more)
		}
	}
	holdAll(t, tree, r)
}
