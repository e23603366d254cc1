package inst

import (
	"testing"

	"gradus/api"
)

// spoil changes all that is in a list, and in the lists within.
func spoil(l []api.Type) {
	for i := range l {
		for k := range l[i].Names {
			l[i].Names[k] = "spoilt"
		}
		spoil(l[i].Kids)
		l[i] = api.Type{Kind: -99, Name: "spoilt"}
	}
}

func listText(l []api.Type) string { return text(node(0, l...)) }

// holdNoListTwice looks for a list that stands in two places.
func holdNoListTwice(t *testing.T, lists ...[]api.Type) {
	t.Helper()
	kids, names := map[*api.Type]int{}, map[*string]int{}
	var look func(l []api.Type)
	look = func(l []api.Type) {
		for i := range l {
			kids[&l[i]]++
			for k := range l[i].Names {
				names[&l[i].Names[k]]++
			}
			look(l[i].Kids)
		}
	}
	for _, l := range lists {
		look(l)
	}
	for _, n := range kids {
		if n > 1 {
			t.Fatal("Kids stand twice")
		}
	}
	for _, n := range names {
		if n > 1 {
			t.Fatal("Names stand twice")
		}
	}
}

var resolveCases = []struct {
	t    api.Type
	vars []string
	with []api.Type
}{
	{written("A"), []string{"A"}, typs("{a: int -> {c: null | int}, b: null | {c: {d: int}}}")},
	{written("A -> A"), []string{"A"}, typs("{a: int -> {c: null | int}}")},
	{written("{b: A, a: A -> B, c: null | B}"), []string{"A", "B", "A"}, typs("{a: {b: int}}; {c: int -> int}; str")},
	{written("{b: int, a: str -> null | {d: int}}"), []string{"A"}, typs("{a: int}")},
	{written("A | B"), []string{"A", "B"}, typs("{a: {b: int}}; {a: {b: int}}")},
	{written("A | null"), []string{"A"}, typs("null | {a: {b: int}}")},
	{written("{b: A, a: B}"), []string{"A"}, typs("{a: int}")},
	{node(api.TInt, variable("A"), record("x", intType)), []string{"A"}, typs("{a: int}")},
	{chain(17, intType), []string{"A"}, typs("{a: int}")},
	{api.Type{Kind: api.TVar, Name: "A", Names: []string{"x"}, Kids: []api.Type{record("x", intType)}}, []string{"A"}, typs("{a: int}")},
}

// R3: of Resolve.
func TestResolveIsOwn(t *testing.T) {
	for i, c := range resolveCases {
		in, vars, with := []api.Type{copyAll(c.t)}, append([]string{}, c.vars...), copyList(c.with)
		got, e := Resolve(in[0], vars, with)
		answer, before := []api.Type{got}, text(got)
		if text(in[0]) != text(c.t) || listText(with) != listText(c.with) {
			t.Errorf("%d: what was handed in has become something else", i)
		}
		for k := range vars {
			if vars[k] != c.vars[k] {
				t.Errorf("%d: a name has become %q", i, vars[k])
			}
		}
		holdNoListTwice(t, answer, in, with)
		spoil(in)
		spoil(with)
		if text(got) != before {
			t.Errorf("%d: what was answered changes with what was handed in", i)
		}
		in, with = []api.Type{copyAll(c.t)}, copyList(c.with)
		again, e2 := Resolve(in[0], c.vars, with)
		spoil([]api.Type{again})
		if e != e2 || text(in[0]) != text(c.t) || listText(with) != listText(c.with) {
			t.Errorf("%d: what was handed in changes with what was answered", i)
		}
	}
}

// R3: of Bind, which answers a number alone.
func TestBindChangesNothing(t *testing.T) {
	for _, l := range [][]api.Type{typs("{a: int, b: {c: str}}; {d: {a: int, b: {c: str}}}"), typs("int; str"), typs("{a: int, b: {c: str}}; str"), {record("b a", intType, intType), intType}} {
		vars := bounds("A", "{b: {c: str}, a: int}", "B", "{d: A}")
		before := listText(l) + text(vars[0].Bound) + text(vars[1].Bound) + vars[0].Name + vars[1].Name
		Bind(vars, l)
		if listText(l)+text(vars[0].Bound)+text(vars[1].Bound)+vars[0].Name+vars[1].Name != before {
			t.Error("what was handed in has become something else")
		}
	}
}

// R3: of tables: what a caller changes afterwards, in what it handed in or got, changes no table.
func TestTablesAreOwn(t *testing.T) {
	l := withoutEqual(unlike())
	x := New(len(l))
	for round := range 3 {
		for n, i := range l {
			in := instance(i.Module, i.Decl, copyList(i.Types)...)
			holdAdd(t, x, in, n, api.OK)
			if instanceText(in) != instanceText(i) {
				t.Fatalf("%d: what was handed in has become something else", n)
			}
			a, _ := x.At(n)
			b, _ := x.At(n)
			holdNoListTwice(t, in.Types, a.Types, b.Types)
			spoil(in.Types)
			if instanceText(a) != instanceText(i) {
				t.Fatalf("%d, round %d: what was answered changes with what was handed in", n, round)
			}
			spoil(a.Types)
			if instanceText(b) != instanceText(i) {
				t.Fatalf("%d: two that are answered share something", n)
			}
		}
		holdList(t, x, l)
	}
}

// R3: what is shared within what is handed in is not shared in what is kept and answered.
func TestSharedWithin(t *testing.T) {
	inner := typ("{a: int -> int, b: null | int}")
	both := function(inner, inner)
	list := []api.Type{both, inner, record("x y", inner, both), both}
	x := New(1)
	holdAdd(t, x, api.Instance{Types: list}, 0, api.OK)
	got, _ := x.At(0)
	holdNoListTwice(t, got.Types)
	r, e := Resolve(record("a b", both, function(variable("A"), variable("A"))), []string{"A"}, []api.Type{both})
	if e != api.OK {
		t.Error(e)
	}
	holdNoListTwice(t, []api.Type{r})
}
