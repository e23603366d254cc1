package inst

import (
	"fmt"
	"testing"

	"gradus/api"
)

func instance(module, decl int, l ...api.Type) api.Instance {
	return api.Instance{Module: module, Decl: decl, Types: l}
}

func instanceText(i api.Instance) string {
	s := fmt.Sprintf("%d/%d", i.Module, i.Decl)
	for _, t := range i.Types {
		s += " " + text(t)
	}
	return s
}

func holdAdd(t *testing.T, x *Table, i api.Instance, want int, wantE api.Errno) {
	t.Helper()
	if n, e := x.Add(i); n != want || e != wantE {
		t.Errorf("Add(%s): %d, %d, not %d, %d", instanceText(i), n, e, want, wantE)
	}
}

// holdList asks for all that a table has, and for what it has not.
func holdList(t *testing.T, x *Table, want []api.Instance) {
	t.Helper()
	if x.Len() != len(want) {
		t.Errorf("there are %d, not %d", x.Len(), len(want))
	}
	for n, w := range want {
		if got, ok := x.At(n); !ok || instanceText(got) != instanceText(w) {
			t.Errorf("At(%d): %s, %v, not %s", n, instanceText(got), ok, instanceText(w))
		}
	}
	for _, n := range []int{-1, -2, -1 << 63, len(want), len(want) + 1, 1<<63 - 1} {
		if got, ok := x.At(n); ok || got.Module != 0 || got.Decl != 0 || len(got.Types) != 0 {
			t.Errorf("At(%d): %s, %v", n, instanceText(got), ok)
		}
	}
}

// P8.3: tables for none, whether they are made so, or made by no call of New.
func TestTableForNone(t *testing.T) {
	var missing *Table
	for i, x := range []*Table{New(0), New(-1), New(-1 << 63), {}, missing} {
		holdList(t, x, nil)
		for range 2 {
			holdAdd(t, x, api.Instance{}, 0, api.ErrMany)
			holdAdd(t, x, instance(i, 2, intType), 0, api.ErrMany)
			holdAdd(t, x, instance(i, 2, intType, leaf(9)), 0, api.ErrType)
			holdList(t, x, nil)
		}
	}
}

// P8.3, P8.4
func TestTableForOne(t *testing.T) {
	x := New(1)
	holdList(t, x, nil)
	one := instance(1, 2, intType)
	holdAdd(t, x, instance(1, 2, variable("A")), 0, api.ErrType)
	holdList(t, x, nil)
	for range 3 {
		holdAdd(t, x, one, 0, api.OK)
		holdList(t, x, []api.Instance{one})
	}
	for range 2 {
		for _, other := range []api.Instance{{}, instance(1, 2), instance(2, 2, intType), instance(1, 1, intType), instance(1, 2, strType), instance(1, 2, intType, intType)} {
			holdAdd(t, x, other, 0, api.ErrMany)
			holdList(t, x, []api.Instance{one})
		}
		holdAdd(t, x, instance(1, 2, leaf(9)), 0, api.ErrType)
		holdAdd(t, x, one, 0, api.OK)
		holdList(t, x, []api.Instance{one})
	}
}

// unlike are instances of which no two are the same, though all are nearly so.
func unlike() []api.Instance {
	l := []api.Instance{{}, instance(0, 1), instance(1, 0), instance(1, 1), instance(-1, 0), instance(0, -1), instance(1<<63-1, -1<<63), instance(12, 3), instance(1, 23)}
	for _, s := range []string{
		"any", "null", "bool", "int", "str", "any; any", "null; any", "any; null", "int; str", "str; int", "int; int", "int; int; int",
		"{}", "{}; {}", "{a: int}", "{b: int}", "{a: str}", "{a: int, b: int}", "{a: int}; {b: int}", "{b: int}; {a: int}", "{ab: int}", "{a: {b: int}}", "{a: {}, b: int}", "{a: {}}; int",
		"{a: {b: int}, c: int}", "{a: {b: int, c: int}}", "{a: {}, b: {}}", "{a: {b: {}}}",
		"int -> int", "int -> str", "str -> int", "int; int -> int", "int -> int; int", "int -> int -> int", "(int -> int) -> int", "int -> int; int -> int", "(int -> int) -> int -> int", "int -> int -> int -> int",
		"null | int", "null | str", "null | int | str", "null | int; str", "null; int | str", "null | bool | int | str", "null | {a: int | str}", "null | {a: int} | (any -> any)", "null | {a: null | {}} ", "{a: null | {a: int}}",
		"null | (int -> int)", "null | (int -> null | int)", "(null | int) -> int", "null | int -> int", "{a: any -> int, b: str}", "{a: any}; int; {b: str}",
	} {
		l = append(l, instance(0, 0, typs(s)...))
	}
	l = append(l, instance(0, 1, intType), instance(1, 0, intType), instance(0, 0, chain(16, intType)), instance(0, 0, big(200, intType)), instance(0, 0, big(200, strType)))
	// Beyond the limits types are normal, too.
	for height := 17; height < 24; height++ {
		l = append(l, instance(0, 0, chain(height, intType)), instance(0, 0, chain(height, strType)), instance(0, 0, chain(height, record(""))))
	}
	for size := 201; size < 210; size++ {
		l = append(l, instance(0, 0, big(size, intType)), instance(0, 0, big(size, nullType)))
	}
	return l
}

// withoutEqual drops those whose texts are there already: a text may have been written in two ways.
func withoutEqual(l []api.Instance) []api.Instance {
	seen := map[string]bool{}
	var out []api.Instance
	for _, i := range l {
		if !seen[instanceText(i)] {
			out = append(out, i)
		}
		seen[instanceText(i)] = true
	}
	return out
}

// P8.3, P8.4: instances that differ in one thing alone have two numbers; each has its own, the first time and later on.
func TestTableForMany(t *testing.T) {
	l := withoutEqual(unlike())
	if len(l) < 85 {
		t.Error("there are but", len(l))
	}
	for _, most := range []int{len(l), len(l) + 1, 1<<63 - 1, len(l) - 1, len(l) / 2} {
		x := New(most)
		room := min(most, len(l))
		for round := range 3 {
			for n, i := range l {
				own := instance(i.Module, i.Decl, copyList(i.Types)...)
				if n < room {
					holdAdd(t, x, own, n, api.OK)
				} else {
					holdAdd(t, x, own, 0, api.ErrMany)
				}
				if want := max(min(n+1, room), min(round, 1)*room); x.Len() != want {
					t.Fatalf("there are %d, not %d", x.Len(), want)
				}
			}
			holdList(t, x, l[:room])
		}
	}
}

// P8.3: ErrType, full or not, of an instance that would be there, or not, but for one of its types.
func TestTableNotNormal(t *testing.T) {
	for most := range 4 {
		x := New(most)
		var want []api.Instance
		for n := range most {
			for _, bad := range notNormal() {
				holdAdd(t, x, instance(0, n, bad), 0, api.ErrType)
			}
			want = append(want, instance(0, n, intType))
			holdAdd(t, x, want[n], n, api.OK)
		}
		for _, bad := range notNormal() {
			for _, l := range [][]api.Type{{bad}, {bad, intType}, {intType, bad}, {intType, bad, intType}, {bad, bad}} {
				holdAdd(t, x, instance(0, 0, l...), 0, api.ErrType)
				holdAdd(t, x, instance(9, 9, l...), 0, api.ErrType)
			}
			holdList(t, x, want)
		}
	}
}

// R6: lists without elements.
func TestTableEmptyLists(t *testing.T) {
	x := New(4)
	empty := func(kind int) api.Type { return api.Type{Kind: kind, Names: []string{}, Kids: []api.Type{}} }
	holdAdd(t, x, api.Instance{}, 0, api.OK)
	holdAdd(t, x, api.Instance{Types: []api.Type{}}, 0, api.OK)
	holdAdd(t, x, instance(0, 0, empty(api.TRec), intType), 1, api.OK)
	holdAdd(t, x, instance(0, 0, leaf(api.TRec), empty(api.TInt)), 1, api.OK)
	holdAdd(t, x, instance(0, 0, function(empty(api.TAny), leaf(api.TRec))), 2, api.OK)
	holdAdd(t, x, instance(0, 0, function(anyType, empty(api.TRec))), 2, api.OK)
	if x.Len() != 3 {
		t.Error(x.Len())
	}
}

// R5: tables do not know of one another.
func TestTwoTables(t *testing.T) {
	x, y := New(2), New(3)
	a, b, c := instance(0, 0), instance(0, 1, intType), instance(0, 2, strType)
	holdAdd(t, x, a, 0, api.OK)
	holdAdd(t, y, b, 0, api.OK)
	holdAdd(t, x, b, 1, api.OK)
	holdAdd(t, y, c, 1, api.OK)
	holdAdd(t, x, c, 0, api.ErrMany)
	holdAdd(t, y, a, 2, api.OK)
	holdList(t, x, []api.Instance{a, b})
	holdList(t, y, []api.Instance{b, c, a})
}
