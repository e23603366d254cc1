package shape

import (
	"strings"
	"testing"

	"gradus/api"
)

// chance is numbers that come one after the other, the same ones each time.
type chance uint64

func (c *chance) below(n int) int {
	*c ^= *c << 13
	*c ^= *c >> 7
	*c ^= *c << 17
	return int(uint64(*c) >> 1 % uint64(n))
}

// name is one of so many.
func (c *chance) name(n int) string {
	return strings.Repeat("a", c.below(n))
}

// P15.1 to P15.3: all short sequences of Adds of two names to the first shapes and to one that is not there.
func TestSmallTrees(t *testing.T) {
	names := []string{"a", "b"}
	var steps [][2]int
	var met int
	var each func()
	each = func() {
		tree, r := New(), newReading()
		for _, k := range steps {
			want, wantE := r.Add(k[0], names[k[1]])
			if got, e := tree.Add(k[0], names[k[1]]); got != want || e != wantE {
				t.Fatalf("%v: %d %d, not %d %d", steps, got, e, want, wantE)
			}
		}
		holdAll(t, tree, r, "c")
		met++
		if len(steps) == 5 {
			return
		}
		for s := range min(r.Len()+1, 5) {
			for n := range names {
				steps = append(steps, [2]int{s, n})
				each()
				steps = steps[:len(steps)-1]
			}
		}
	}
	each()
	if met < 5000 {
		t.Error(met)
	}
}

// tally is how many of what was looked out for came up.
type tally struct{ made, again, own, wrong, great int }

// P15.1 to P15.3: any calls on one tree, held against the second reading.
func TestAnyCalls(t *testing.T) {
	c := chance(362436069)
	var y tally
	for round := range 400 {
		tree, r := New(), newReading()
		kinds, long := 2+c.below(90), 0
		for range 20 + c.below(120) {
			before := r.Len()
			if c.below(8) == 0 {
				anyOf(t, &c, tree, r, kinds)
				continue
			}
			// One shape is made longer all the time, so that there are long ones.
			s, name := long, c.name(kinds)
			if c.below(2) == 0 {
				s = c.below(r.Len()+4) - 2
			}
			want, wantE := r.Add(s, name)
			got, e := tree.Add(s, name)
			if got != want || e != wantE {
				t.Fatalf("%d: Add(%d, %q): %d %d, not %d %d", round, s, name, got, e, want, wantE)
			}
			if s == long {
				long = got
			}
			switch {
			case e != api.OK:
				y.wrong++
			case got == s:
				y.own++
			case got < before:
				y.again++
			default:
				y.made++
			}
		}
		for _, l := range r.shapes {
			if len(l) > 2*most {
				y.great++
			}
		}
		holdAll(t, tree, r, "b")
	}
	if min(y.made, y.again, y.own, y.wrong, y.great) < 300 {
		t.Errorf("%+v", y)
	}
}

func anyOf(t *testing.T, c *chance, tree *Tree, r *reading, kinds int) {
	t.Helper()
	var names []string
	// The first ones are often those of a shape that is there.
	if c.below(2) == 0 {
		names = append(names, r.Names(c.below(r.Len()))...)
	}
	for range c.below(6) {
		names = append(names, c.name(kinds))
	}
	want, _ := r.Of(names)
	holdOf(t, tree, want, names...)
}
