package rel

import (
	"testing"

	"gradus/api"
	"gradus/types"
)

// spoil changes all that a type has in it, by its lists.
func spoil(t api.Type) {
	for i := range t.Names {
		t.Names[i] = "spoilt"
	}
	for i := range t.Kids {
		spoil(t.Kids[i])
		t.Kids[i] = api.Type{Kind: -99, Name: "spoilt"}
	}
}

// R3: what was handed in stays as it was.
func TestNothingIsChanged(t *testing.T) {
	list := append(notNormal(), smallTypes()...)
	list = append(list, chain(17, intType), big(201, intType), union(nullType, chain(17, intType)))
	for i, a := range list {
		for k := i % 7; k < len(list); k += 7 {
			b := list[k]
			beforeA, beforeB := text(a), text(b)
			stands(a, b)
			Join(a, b)
			for tag := -1; tag <= api.Tags; tag++ {
				Narrow(a, tag)
			}
			if text(a) != beforeA || text(b) != beforeB {
				t.Fatalf("%s, %s have become %s, %s", beforeA, beforeB, text(a), text(b))
			}
		}
	}
}

// R3: what is answered shares nothing with what was handed in.
func TestAnswersAreOwn(t *testing.T) {
	inner := typ("{a: int -> {c: null | int}, b: null | {c: {d: int}}}")
	less := typ("{a: int -> {c: null | int}}")
	wrong := record("b a", inner, function(inner, variable))
	for i, in := range []struct {
		a, b api.Type
	}{
		{inner, inner}, {inner, less}, {less, inner}, {inner, function(inner, less)}, {union(nullType, inner), union(strType, inner)},
		{union(nullType, inner), union(strType, less)}, {union(nullType, less), union(strType, inner)}, {anyType, inner}, {inner, wrong},
		{union(nullType, intType, inner), union(nullType, inner)}, {wrong, wrong}, {function(inner, inner), union(inner, function(inner, inner))},
		{chain(17, inner), chain(17, inner)}, {union(nullType, chain(17, inner)), union(nullType, chain(18, inner))},
	} {
		join := func(a, b api.Type) []api.Type { return []api.Type{Join(a, b)} }
		holdOwn(t, i, in.a, in.b, join)
		for tag := -1; tag <= api.Tags; tag++ {
			holdOwn(t, i, in.a, in.b, func(a, b api.Type) []api.Type {
				with, without := Narrow(a, tag)
				other, third := Narrow(b, tag)
				return []api.Type{with, without, other, third}
			})
		}
	}
}

func holdOwn(t *testing.T, number int, a, b api.Type, ask func(a, b api.Type) []api.Type) {
	t.Helper()
	ownA, ownB := copyAll(a), copyAll(b)
	answers := ask(ownA, ownB)
	var kept []string
	for _, answer := range answers {
		kept = append(kept, text(answer))
	}
	spoil(ownA)
	spoil(ownB)
	for i, answer := range answers {
		if text(answer) != kept[i] {
			t.Errorf("%d: what was answered changes with what was handed in", number)
		}
	}
	ownA, ownB = copyAll(a), copyAll(b)
	answers = ask(ownA, ownB)
	for i := range answers {
		spoil(answers[i])
		for k := i + 1; k < len(answers); k++ {
			if text(answers[k]) != kept[k] {
				t.Errorf("%d: two that are answered share something", number)
			}
		}
	}
	if text(ownA) != text(a) || text(ownB) != text(b) {
		t.Errorf("%d: what was handed in changes with what was answered", number)
	}
}

// R3: what is shared within what is handed in is not shared in the answer.
func TestNoListTwice(t *testing.T) {
	inner := typ("{a: int -> int, b: null | int}")
	twice := function(inner, inner)
	both := union(nullType, record("a b", inner, inner), twice)
	for _, in := range []api.Type{twice, record("a b", inner, inner), both, record("b a", inner, inner), chain(17, twice)} {
		answers := []api.Type{Join(in, in), Join(in, intType), Join(strType, in), Join(in, union(nullType, strType))}
		for tag := -1; tag <= api.Tags; tag++ {
			with, without := Narrow(in, tag)
			answers = append(answers, with, without)
		}
		for _, answer := range answers {
			holdNoListTwice(t, answer)
		}
	}
}

func holdNoListTwice(t *testing.T, in api.Type) {
	t.Helper()
	seen := map[*api.Type]int{}
	var look func(x api.Type)
	look = func(x api.Type) {
		for i := range x.Kids {
			seen[&x.Kids[i]]++
			if seen[&x.Kids[i]] > 1 {
				t.Errorf("a list stands twice in %s", short(in))
			}
			look(x.Kids[i])
		}
	}
	look(in)
}

// anyOf is any type at all, most often one that is nearly right.
func (c *chance) anyOf(height int) api.Type {
	t := c.normalOf(height)
	for range c.below(3) {
		at := &t
		for len(at.Kids) > 0 && c.below(3) > 0 {
			at = &at.Kids[c.below(len(at.Kids))]
		}
		c.spoilOne(at)
	}
	return t
}

func (c *chance) spoilOne(t *api.Type) {
	switch c.below(7) {
	case 0:
		t.Kind = c.below(12) - 2
	case 1:
		t.Name = "x"
	case 2:
		t.Names = append(t.Names, "x")
	case 3:
		t.Kids = append(t.Kids, c.normalOf(2))
	case 4:
		if len(t.Kids) > 0 {
			t.Kids = t.Kids[:len(t.Kids)-1]
		}
	case 5:
		if len(t.Kids) > 1 {
			t.Kids[0], t.Kids[1] = t.Kids[1], t.Kids[0]
		}
	case 6:
		if len(t.Names) > 1 {
			t.Names[0], t.Names[1] = t.Names[1], t.Names[0]
		}
	}
}

// P1, P6.1 to P6.8: any types at all; types' Norm tells which of them are normal, since all are within its limits.
func TestAnyTypes(t *testing.T) {
	c := chance(2463534242)
	right, others := 0, 0
	for range 15000 {
		a := c.anyOf(1 + c.below(4))
		b := copyAll(a)
		if c.below(3) == 0 {
			b = c.anyOf(1 + c.below(4))
		}
		both := isKept(a) && isKept(b)
		switch {
		case both:
			right++
			holdReading(t, a, b)
			holdBothSubOfJoin(t, a, b)
		default:
			others++
			holdNoStanding(t, a, b)
		}
		if !isKept(a) {
			holdNarrow(t, a, c.below(9)-1, a, a)
		}
	}
	if right < 3000 || others < 3000 {
		t.Errorf("%d are normal, %d are not", right, others)
	}
}

func isKept(t api.Type) bool {
	kept, e := types.Norm(t)
	return e == api.OK && types.Same(kept, t)
}
