package coerce

import (
	"fmt"
	"math"
	"slices"
	"strings"
	"testing"

	"gradus/api"
	"gradus/types"
)

// chain is of that height, and as big.
func chain(height int, last api.Type) api.Type {
	for range height - 1 {
		last = record("a", last)
	}
	return last
}

// functions is of that height: each takes the next one.
func functions(height int, last api.Type) api.Type {
	for range height - 1 {
		last = function(last, intType)
	}
	return last
}

// wide is a record with 16 records of so many fields each, the last one of which is of the type last.
func wide(each int, last api.Type) api.Type {
	t := record("")
	for i := range 16 {
		kid := fields(each)
		if i == 15 {
			kid.Kids[each-1] = last
		}
		t.Names = append(t.Names, fmt.Sprintf("g%02d", i))
		t.Kids = append(t.Kids, kid)
	}
	return t
}

// nested is a coercion within so many fields.
func nested(deep int, c api.Co) api.Co {
	for range deep {
		c = api.Co{Tags: make([]int, 6), Names: []string{"a"}, Fields: []api.Co{c}}
	}
	return c
}

// taken is a coercion of what is taken, so many times.
func taken(deep int, c api.Co) api.Co {
	for range deep {
		c = api.Co{Tags: make([]int, 6), Fun: []api.Co{c, Id()}}
	}
	return c
}

// P10.2: being normal does not hang on size and height (chapter 3, Words), so that types may be beyond Norm's limits.
func TestMakeBeyondNorm(t *testing.T) {
	for _, height := range []int{2, 15, 16, 17, 18, 40, 500} {
		i, s := chain(height, intType), chain(height, strType)
		if _, e := types.Norm(i); (e == api.OK) != (height <= api.MaxHeight) {
			t.Fatal(height, e)
		}
		holdMake(t, i, s, 2, nested(height-1, co("<i:2>")))
		holdMake(t, i, i, 2, Id())
		holdMake(t, i, anyType, 2, Id())
		holdMake(t, union(nullType, i), union(intType, s), 2, merged("<n:2>", nested(height-1, co("<i:2>"))))
		want := co("<nbsrf:2>")
		for range height - 1 {
			want = api.Co{Tags: []int{2, 2, 2, 2, 0, 2}, Needs: []api.Need{{Name: "a", Label: 2}}, Names: []string{"a"}, Fields: []api.Co{want}}
		}
		holdMake(t, anyType, i, 2, want)
		f, g := functions(height, intType), functions(height, strType)
		turned := [2]api.Co{co("<s:3>"), co("<i:2>")}[height%2]
		holdMake(t, f, g, 2, taken(height-1, turned))
	}
	for _, each := range []int{10, 11, 12, 16} {
		i, s := wide(each, intType), wide(each, strType)
		if _, e := types.Norm(i); (e == api.OK) != (each <= 11) {
			t.Fatal(each, e)
		}
		last := fmt.Sprintf("f%02d", each-1)
		holdMake(t, i, s, 2, co("<g15=<"+last+"=<i:2>>>"))
		holdMake(t, s, i, 3, co("<g15=<"+last+"=<s:3>>>"))
		holdMake(t, i, anyType, 2, Id())
		if c := Make(anyType, i, 2); Size(c) != 1+16+16*each || !May(c) {
			t.Errorf("%d: Size %d", each, Size(c))
		}
	}
}

// merged is a coercion with the labels of another one as its own.
func merged(s string, c api.Co) api.Co {
	c = copyCo(c)
	copy(c.Tags, co(s).Tags)
	return c
}

// The document's bound: 2^16 parts may be nested in one another.
func TestDeep(t *testing.T) {
	const deep = 1 << 16
	for _, c := range []api.Co{nested(deep-1, co("<i:2>")), taken(deep-1, co("<i:2>"))} {
		if !May(c) || !Same(c, copyCo(c)) || !slices.Equal(Labels(c), []int{2}) {
			t.Error("deep ones are not normal")
		}
		d := Compose(c, c)
		if !Same(c, d) || !Same(Compose(Id(), c), c) || !Same(Compose(c, Id()), c) {
			t.Error("Compose of deep ones")
		}
	}
	if got := Size(nested(deep-1, co("<i:2>"))); got != deep {
		t.Error(got)
	}
	if got := Size(taken(deep-1, co("<i:2>"))); got != 2*deep-1 {
		t.Error(got)
	}
	if c := Make(chain(deep, intType), chain(deep, strType), 2); !Same(c, nested(deep-1, co("<i:2>"))) {
		t.Error("Make of deep types")
	}
	if c := Make(functions(deep, intType), functions(deep, strType), 2); !Same(c, taken(deep-1, co("<s:3>"))) {
		t.Error("Make of deep functions")
	}
}

// P1: deeper than the bound: nothing is promised but that each call ends.
func TestTooDeep(t *testing.T) {
	for _, deep := range []int{1<<16 + 1, 1 << 18} {
		for _, c := range []api.Co{nested(deep, co("<i:2>")), taken(deep, co("<i:2>"))} {
			if !slices.Equal(Labels(c), []int{2}) || !Same(c, c) || Same(c, Id()) || Size(c) < deep {
				t.Errorf("%d: Labels, Same or Size", deep)
			}
			if May(c) {
				t.Errorf("%d: may be", deep)
			}
			for _, d := range []api.Co{Compose(c, c), Compose(Id(), c), Compose(c, Id())} {
				holdCo(t, fmt.Sprint("Compose, ", deep), d, api.Co{})
			}
		}
		holdMake(t, intType, chain(deep+2, intType), 2, api.Co{})
		holdMake(t, functions(deep+2, intType), functions(deep+2, strType), 2, api.Co{})
	}
}

// braid is of that height: each function takes and answers the next one, or each record has it twice.
func braid(height int, kind int, last api.Type) api.Type {
	for range height - 1 {
		last = api.Type{Kind: kind, Kids: []api.Type{last, last}}
		if kind == api.TRec {
			last.Names = []string{"a", "b"}
		}
	}
	return last
}

// P1: Kids that stand in many places. What comes of them is told while it is no more than the document's bound.
func TestMakeOfSharedKids(t *testing.T) {
	for _, kind := range []int{api.TFun, api.TRec} {
		for height := 2; height < 90; height++ {
			in := func(last api.Type) api.Type { return braid(height, kind, last) }
			holdMake(t, in(intType), in(intType), 2, Id())
			holdMake(t, in(variable), in(intType), 2, api.Co{})
			holdMake(t, in(intType), in(variable), 2, api.Co{})
			if kind == api.TRec {
				holdMake(t, in(intType), strType, 2, co("<r:2>"))
				holdMake(t, in(intType), anyType, 2, Id())
			} else {
				holdMake(t, in(intType), strType, 2, co("<f:2>"))
			}
			if height > 16 && height < 40 {
				continue
			}
			c := Make(in(intType), in(strType), 2)
			switch {
			case height >= 40:
				holdCo(t, "Make of what is too great", c, api.Co{})
			case !May(c) || Size(c) != 1<<height-1:
				t.Errorf("kind %d, height %d: Size %d", kind, height, Size(c))
			}
		}
	}
}

// twice has a coercion in two places, so many times within one another.
func twice(deep int, c api.Co, fun bool) api.Co {
	for range deep {
		list := []api.Co{c, c}
		c = api.Co{Tags: make([]int, 6), Fun: list}
		if !fun {
			c = api.Co{Tags: make([]int, 6), Names: []string{"a", "b"}, Fields: list}
		}
	}
	return c
}

// P1: lists that are met in many places.
func TestSharedLists(t *testing.T) {
	for _, fun := range []bool{false, true} {
		for deep := range 90 {
			in := func(c api.Co) api.Co { return twice(deep, c, fun) }
			c, other := in(co("<i:2>")), in(co("<i:3>"))
			if !May(c) || May(in(co("<a!0>"))) || !Same(c, in(co("<i:2>"))) || Same(c, other) || !slices.Equal(Labels(c), []int{2}) {
				t.Errorf("deep %d", deep)
			}
			want := math.MaxInt
			if deep < 62 {
				want = 2<<deep - 1
			}
			if got := Size(c); got != want {
				t.Errorf("deep %d: Size %d, not %d", deep, got, want)
			}
			// What is dropped may be as great as it likes:
			if deep > 0 {
				holdCo(t, "Compose behind what blames", Compose(co("<rf:5>"), c), co("<rf:5>"))
			}
			switch {
			case deep < 14:
				holdShared(t, c, other, deep)
			case deep > 40:
				holdCo(t, "Compose of what is too great", Compose(c, other), api.Co{})
				holdCo(t, "Compose of what is too great, and Id", Compose(c, Id()), api.Co{})
				holdCo(t, "Compose of Id, and what is too great", Compose(Id(), c), api.Co{})
			}
		}
	}
}

func holdShared(t *testing.T, c, other api.Co, deep int) {
	t.Helper()
	d := Compose(c, other)
	if Size(d) != Size(c) || !May(d) || !Same(Compose(Id(), c), c) || !Same(Compose(c, Id()), c) {
		t.Errorf("deep %d: Compose", deep)
	}
	fresh := Compose(copyCo(c), copyCo(other))
	if !Same(d, fresh) || !alike(d, fresh) {
		t.Errorf("deep %d: Compose hangs on what is shared", deep)
	}
}

// rings stand within themselves, in different ways.
func rings() []api.Co {
	var list []api.Co
	for _, fun := range []bool{false, true} {
		for _, length := range []int{1, 2, 3, 10} {
			kids := cos("none", "<i:2>")
			last := api.Co{Tags: make([]int, 6), Names: []string{"a", "b"}, Fields: kids}
			if fun {
				last = api.Co{Tags: make([]int, 6), Fun: kids}
			}
			kids[0] = nested(length-1, last)
			list = append(list, last, kids[0], nested(3, last), taken(3, last))
		}
	}
	wrong := make([]api.Co, 1000)
	for i := range wrong {
		wrong[i] = api.Co{Tags: []int{i}, Fields: wrong, Fun: wrong[i:]}
	}
	return append(list, wrong[0], wrong[999])
}

// P1: lists that stand within themselves: each call ends.
func TestRings(t *testing.T) {
	list := rings()
	for i, a := range list {
		if May(a) || Size(a) != math.MaxInt || len(Labels(a)) == 0 {
			t.Errorf("ring %d: Size %d, Labels %v", i, Size(a), Labels(a))
		}
		holdCo(t, "Compose of a ring and Id", Compose(a, Id()), api.Co{})
		holdCo(t, "Compose of Id and a ring", Compose(Id(), a), api.Co{})
		if i >= len(list)-2 {
			continue
		}
		for k, b := range list[:len(list)-2] {
			holdCo(t, "Compose of rings", Compose(a, b), api.Co{})
			if same := Same(a, b); i == k && !same || i%8 == 0 && k%8 == 4 && same {
				t.Errorf("Same of the rings %d and %d: %v", i, k, same)
			}
		}
	}
	if got := Labels(list[len(list)-2]); len(got) != 999 || got[0] != 1 || got[998] != 999 {
		t.Error(len(got))
	}
}

// P1: types that have themselves within.
func TestRingsOfTypes(t *testing.T) {
	ring := func(kind int) api.Type {
		kids := make([]api.Type, 2)
		one := api.Type{Kind: kind, Kids: kids}
		if kind == api.TRec {
			one.Names = []string{"a", "b"}
		}
		kids[0], kids[1] = one, intType
		return one
	}
	list := []api.Type{ring(api.TRec), ring(api.TFun), ring(api.TUnion), ring(api.TVar), ring(api.TInt), ring(-3), chain(5, ring(api.TRec)), union(nullType, ring(api.TFun))}
	for _, a := range list {
		for _, b := range append([]api.Type{anyType, intType, record("")}, list...) {
			if c := Make(a, b, 2); !alike(c, api.Co{}) {
				t.Error("Make of a ring: ", len(c.Tags))
			}
			if c := Make(b, a, 2); !alike(c, api.Co{}) {
				t.Error("Make to a ring: ", len(c.Tags))
			}
		}
	}
}

// P10.3, P10.4: many fields and many Needs.
func TestWideOnes(t *testing.T) {
	const many = 20000
	make1 := func(step, label int) api.Co {
		c := Id()
		for i := 0; i < many; i += step {
			name := fmt.Sprintf("f%05d", i)
			c.Names = append(c.Names, name)
			c.Fields = append(c.Fields, co(fmt.Sprintf("<i:%d>", label+i)))
			c.Needs = append(c.Needs, api.Need{Name: name, Label: label})
		}
		return c
	}
	a, b := make1(2, 10), make1(3, 100000)
	c := Compose(a, b)
	if want := many/2 + many/6; len(c.Names) != want+1 && len(c.Names) != want || len(c.Needs) != len(c.Names) || !slices.IsSortedFunc(c.Names, strings.Compare) || !May(c) {
		t.Errorf("%d Names, %d Needs", len(c.Names), len(c.Needs))
	}
	if !slices.Equal(c.Needs[:many/2], a.Needs) || c.Needs[many/2].Name != "f00003" || c.Fields[0].Tags[api.TagInt] != 10 || c.Fields[2].Tags[api.TagInt] != 100003 {
		t.Error("Needs or Fields are not in their order")
	}
	if l := Labels(c); !slices.IsSorted(l) || len(l) != len(c.Names)+1 || len(slices.Compact(slices.Clone(l))) != len(l) {
		t.Errorf("%d Labels of %d Names", len(l), len(c.Names))
	}
}
