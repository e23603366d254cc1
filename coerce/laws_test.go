package coerce

import (
	"slices"
	"testing"

	"gradus/api"
	"gradus/rel"
	"gradus/types"
)

// holdLaws is what P10.5 says of three coercions that are normal.
func holdLaws(t *testing.T, x, y, z api.Co) {
	t.Helper()
	if !May(x) || !May(y) || !May(z) {
		t.Fatalf("not normal: %s, %s, %s", told(x), told(y), told(z))
	}
	holdCo(t, "Compose of Id and c", Compose(Id(), x), x)
	holdCo(t, "Compose of c and Id", Compose(x, Id()), x)
	xy, yz := Compose(x, y), Compose(y, z)
	one, other := Compose(xy, z), Compose(x, yz)
	if !May(xy) || !May(yz) || !May(one) {
		t.Errorf("Compose of %s, %s and %s is not normal", told(x), told(y), told(z))
	}
	holdCo(t, "three put together", one, other)
}

// holdSides is what P10.2 and P10.5 say of two normal types.
func holdSides(t *testing.T, a, b api.Type, label int) {
	t.Helper()
	c := Make(a, b, label)
	if !May(c) {
		t.Fatalf("Make(%s, %s, %d) is not normal: %s", short(a), short(b), label, told(c))
	}
	if !sameFlat(flatten(c), readMake(a, b, label)) {
		t.Errorf("Make(%s, %s, %d): %s", short(a), short(b), label, told(c))
	}
	var want []int
	if !rel.Pos(a, b) {
		want = append(want, label)
	}
	if !rel.Neg(a, b) {
		want = append(want, label^1)
	}
	slices.Sort(want)
	if got := Labels(c); !slices.Equal(got, want) {
		t.Errorf("Labels of Make(%s, %s, %d): %v, not %v", short(a), short(b), label, got, want)
	}
}

// smallTypes are many types, each once, all kinds within one another.
func smallTypes() []api.Type {
	leaves := []api.Type{anyType, nullType, intType}
	inner := append(slices.Clone(leaves), typ("{}"), typ("null | int"), typ("{a: any}"), typ("{a: int}"), typ("any -> any"), typ("any -> int"), typ("int -> any"), typ("int -> int"))
	list := append(slices.Clone(inner), typ("bool"), typ("str"), typ("ALL"))
	add := func(t api.Type) {
		if n, e := types.Norm(t); e == api.OK {
			list = append(list, n)
		}
	}
	for _, x := range inner {
		add(record("a", x))
		add(record("b", x))
		add(union(strType, x))
		add(union(nullType, record("a", x)))
		for _, y := range leaves {
			add(record("a b", x, y))
			add(function(x, y))
			add(function(y, x))
			add(union(nullType, function(x, y)))
			add(union(record("a", y), function(y, x)))
		}
	}
	for _, x := range []string{"{a: {a: int, b: int}}", "((int -> int) -> int) -> int", "{a: null | {a: int}}", "null | bool | int | str", "{a: ALL}", "ALL -> int", "int -> ALL",
		"null | bool | int | str | {} | (int -> any)", "null | bool | int | str | {} | (any -> int)", "null | bool | int | str | {a: any} | (any -> any)"} {
		add(typ(x))
	}
	slices.SortFunc(list, func(a, b api.Type) int { return slices.Compare([]byte(types.Show(a)), []byte(types.Show(b))) })
	return slices.CompactFunc(list, types.Same)
}

// P10.2, P10.5: small types, each with each, in both directions.
func TestSmallTypes(t *testing.T) {
	list := smallTypes()
	if len(list) < 150 {
		t.Fatalf("just %d types", len(list))
	}
	labels := []int{2, 3, 8, -5}
	for i, a := range list {
		for k, b := range list {
			holdSides(t, a, b, labels[(i+k)%4])
		}
		holdMake(t, a, a, 2, Id())
	}
}

// P10.3, P10.5: coercions of casts, one behind the other, as programs have them.
func TestCastsBehindOneAnother(t *testing.T) {
	list := smallTypes()
	c := chance(362436069)
	one := func() api.Type { return list[c.below(len(list))] }
	for range 6000 {
		a, b, d, e := one(), one(), one(), one()
		x, y, z := Make(a, b, 2), Make(b, d, 4), Make(d, e, 6)
		if c.below(2) == 0 {
			y = Make(one(), one(), 4)
		}
		holdLaws(t, x, y, z)
		if !sameFlat(flatten(Compose(x, y)), readCompose(flatten(x), flatten(y))) {
			t.Errorf("Compose(%s, %s): %s", told(x), told(y), told(Compose(x, y)))
		}
		for _, label := range Labels(Compose(x, y)) {
			if !slices.Contains(Labels(x), label) && !slices.Contains(Labels(y), label) {
				t.Errorf("Compose(%s, %s) has the label %d", told(x), told(y), label)
			}
		}
	}
}

// normalType is at most so high.
func (c *chance) normalType(height int) api.Type {
	if height <= 1 {
		return leaf(c.below(5))
	}
	switch c.below(8) {
	case 0, 1, 2:
		return c.ofKind(api.TRec, height)
	case 3, 4, 5:
		return c.ofKind(api.TFun, height)
	case 6:
		u := leaf(api.TUnion)
		for kind := api.TNull; kind <= api.TFun; kind++ {
			if c.below(3) > 0 {
				u.Kids = append(u.Kids, c.ofKind(kind, height-1))
			}
		}
		if len(u.Kids) >= 2 {
			return u
		}
	}
	return leaf(c.below(5))
}

func (c *chance) ofKind(kind, height int) api.Type {
	switch kind {
	case api.TRec:
		r := leaf(api.TRec)
		for _, name := range []string{"Z", "a", "aa", "b"} {
			if c.below(2) == 0 {
				r.Names, r.Kids = append(r.Names, name), append(r.Kids, c.normalType(height-1))
			}
		}
		return r
	case api.TFun:
		return function(c.normalType(height-1), c.normalType(height-1))
	}
	return leaf(kind)
}

// loosened is a type with other ones in a few places.
func (c *chance) loosened(t api.Type) api.Type {
	if t.Kind != api.TUnion && c.below(9) == 0 {
		return c.normalType(2)
	}
	kids := slices.Clone(t.Kids)
	for i, kid := range kids {
		if t.Kind != api.TUnion {
			kids[i] = c.loosened(kid)
		}
	}
	t.Kids = kids
	return t
}

// P10.2, P10.3, P10.5: made-up types; most often two of them are alike, so that much comes of what is within.
func TestMadeUpTypes(t *testing.T) {
	c := chance(2463534242)
	for range 5000 {
		a := c.normalType(1 + c.below(5))
		b := c.loosened(a)
		d := c.loosened(b)
		if c.below(4) == 0 {
			b = c.normalType(1 + c.below(4))
		}
		label := []int{2, 3, 6, 7, -1, -2}[c.below(6)]
		holdSides(t, a, b, label)
		holdSides(t, b, a, label)
		holdSides(t, a, anyType, label)
		holdSides(t, anyType, b, label)
		holdLaws(t, Make(a, b, 2), Make(b, d, 4), Make(d, a, 6))
		holdLaws(t, Make(a, anyType, 2), Make(anyType, b, 4), Make(b, anyType, 6))
	}
}
