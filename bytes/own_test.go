package bytes

import (
	"reflect"
	"slices"
	"testing"

	"gradus/api"
)

// spoil writes over all that is in a code's lists.
func spoil(c *api.Code) {
	over(c.Ints, -9)
	over(c.Strs, "spoilt")
	for _, l := range c.Shapes {
		over(l, "spoilt")
	}
	over(c.Shapes, []string{"spoilt"})
	spoilCos(c.Cos)
	for _, p := range c.Procs {
		over(p.Code, api.Instr{Op: -9, A: -9, B: -9, C: -9})
	}
	over(c.Procs, api.Proc{Caps: -9, Regs: -9})
}

func spoilCos(l []api.Co) {
	for _, c := range l {
		over(c.Tags, -9)
		over(c.Needs, api.Need{Name: "spoilt", Label: -9})
		over(c.Names, "spoilt")
		spoilCos(c.Fields)
		spoilCos(c.Fun)
	}
	over(l, api.Co{Tags: []int{-9}})
}

// over writes over what is in a list, and in the room behind it.
func over[T any](l []T, with T) {
	l = l[:cap(l)]
	for i := range l {
		l[i] = with
	}
}

// R3: what is handed in may be changed afterwards, and so may what is answered.
func TestOwn(t *testing.T) {
	for _, c := range samples() {
		want := bare(c)
		b := Encode(c)
		again := Encode(c)
		if !reflect.DeepEqual(bare(c), want) {
			t.Fatalf("%s has become %s", show(want), show(c))
		}
		over(again, 99)
		if other := Encode(c); !slices.Equal(other, b) {
			t.Fatalf("%s has become %s", short(b), short(other))
		}
		spoil(&c)
		if !slices.Equal(b, Encode(want)) {
			t.Fatalf("%s hangs on the code", short(b))
		}
		if high(want.Cos) > 40 {
			continue
		}
		first, _ := Decode(b)
		second, _ := Decode(b)
		spoil(&first)
		if !reflect.DeepEqual(bare(second), want) {
			t.Fatalf("%s: two codes hang on one another", short(b))
		}
		over(b, 99)
		if !reflect.DeepEqual(bare(second), want) {
			t.Fatalf("%s hangs on the bytes", show(want))
		}
	}
}

// R3: no two lists of a code that is answered are one: each is made longer, and written over, by itself.
func TestOwnLists(t *testing.T) {
	for _, c := range samples() {
		if high(c.Cos) > 40 {
			continue
		}
		b := Encode(c)
		for at := range lists(&c) {
			got, e := Decode(b)
			if e != api.OK {
				t.Fatal(e)
			}
			want := bare(got)
			// The same is done to a code whose lists are known to be its own.
			lists(&got)[at]()
			lists(&want)[at]()
			if !reflect.DeepEqual(bare(got), bare(want)) {
				t.Fatalf("%s, %d: %s, not %s", short(b), at, show(got), show(want))
			}
		}
	}
}

// lists are calls, each of which spoils one list of a code.
func lists(c *api.Code) []func() {
	l := []func(){
		func() { c.Ints = append(c.Ints, 5); over(c.Ints, -9) },
		func() { c.Strs = append(c.Strs, "more"); over(c.Strs, "spoilt") },
		func() { c.Shapes = append(c.Shapes, []string{"more"}) },
		func() { c.Procs = append(c.Procs, api.Proc{Caps: 5}) },
	}
	for i := range c.Shapes {
		l = append(l, func() { c.Shapes[i] = append(c.Shapes[i], "more"); over(c.Shapes[i], "spoilt") })
	}
	for i := range c.Procs {
		p := &c.Procs[i]
		l = append(l, func() { p.Code = append(p.Code, api.Instr{Op: 5}); over(p.Code, api.Instr{A: -9}) })
	}
	return append(l, coLists(&c.Cos)...)
}

func coLists(in *[]api.Co) []func() {
	l := []func(){func() { *in = append(*in, api.Co{Tags: []int{5}}) }}
	for i := range *in {
		c := &(*in)[i]
		l = append(l,
			func() { c.Tags = append(c.Tags, 5); over(c.Tags, -9) },
			func() { c.Needs = append(c.Needs, api.Need{Label: 5}); over(c.Needs, api.Need{Label: -9}) },
			func() { c.Names = append(c.Names, "more"); over(c.Names, "spoilt") })
		l = append(append(l, coLists(&c.Fields)...), coLists(&c.Fun)...)
	}
	return l
}
