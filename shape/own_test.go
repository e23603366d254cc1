package shape

import (
	"slices"
	"strings"
	"testing"
)

// R3: Of leaves what it is handed as it was, and keeps none of it.
func TestOfKeepsNothing(t *testing.T) {
	for _, n := range []int{0, 1, 2, 15, 16, 17, 40} {
		tree := New()
		in := make([]string, 0, n+5)
		for i := range n {
			in = append(in, strings.Repeat("n", i))
		}
		behind := in[:n+5]
		for i := n; i < n+5; i++ {
			behind[i] = "behind"
		}
		before := slices.Clone(behind)
		s, _ := tree.Of(in)
		if !slices.Equal(behind, before) {
			t.Errorf("%q has become %q", before, behind)
		}
		for i := range behind {
			behind[i] = "spoilt"
		}
		holdNames(t, tree, s, before[:n]...)
		for i, name := range before[:n] {
			holdSlot(t, tree, s, name, i, true)
		}
		holdSlot(t, tree, s, "spoilt", 0, false)
		holdOf(t, tree, s, before[:n]...)
	}
}

// R3: what Names answers is the caller's own, also what he puts behind it.
func TestNamesAreOwn(t *testing.T) {
	tree, r := New(), newReading()
	c := chance(88172645463325252)
	for range 200 {
		s, name := c.below(r.Len()), c.name(40)
		tree.Add(s, name)
		r.Add(s, name)
	}
	for range 3 {
		var all [][]string
		for s := range r.Len() {
			one, other := tree.Names(s), tree.Names(s)
			for i := range one {
				one[i] = "spoilt"
			}
			if !slices.Equal(other, r.Names(s)) {
				t.Fatalf("%q, not %q", other, r.Names(s))
			}
			all = append(all, one[:cap(one)], append(other, "behind"))
		}
		for _, l := range all {
			for i := range l {
				l[i] = "spoilt"
			}
		}
		holdAll(t, tree, r, "spoilt", "behind")
	}
}

// R3: what Names has answered stays as it was when more is added.
func TestNamesStay(t *testing.T) {
	tree := New()
	var told, want [][]string
	c := chance(2463534242)
	for range 300 {
		s := c.below(tree.Len())
		names := tree.Names(s)
		told, want = append(told, names), append(want, slices.Clone(names))
		tree.Add(s, c.name(60))
	}
	for i := range told {
		if !slices.Equal(told[i], want[i]) {
			t.Fatalf("%q has become %q", want[i], told[i])
		}
	}
}
