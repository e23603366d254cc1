package clos

import (
	"fmt"
	"reflect"
	"testing"

	"gradus/api"
	"gradus/norm"
)

// spoil writes noughts over all elements of all lists, the room behind them included.
func spoil(v reflect.Value) {
	switch v.Kind() {
	case reflect.Struct:
		for i := range v.NumField() {
			spoil(v.Field(i))
		}
	case reflect.Slice:
		v = v.Slice(0, v.Cap())
		for i := range v.Len() {
			spoil(v.Index(i))
			v.Index(i).SetZero()
		}
	}
}

// places gathers where all elements of all lists stand, the room behind them included, and tells of each that stands
// twice.
func places(v reflect.Value, met map[string]int) {
	switch v.Kind() {
	case reflect.Struct:
		for i := range v.NumField() {
			places(v.Field(i), met)
		}
	case reflect.Slice:
		v = v.Slice(0, v.Cap())
		for i := range v.Len() {
			met[fmt.Sprint(v.Type(), v.Index(i).Addr().Pointer())]++
			places(v.Index(i), met)
		}
	}
}

// holdOwn holds that a program stays as it was, at every depth, and that what is answered hangs on nothing of it, nor
// any part of that on another one.
func holdOwn(t *testing.T, p api.Program) {
	t.Helper()
	before := copyAll(p)
	got := Convert(p)
	if !reflect.DeepEqual(p, before) {
		t.Fatalf("%s\nhas become %s", whole(before), whole(p))
	}
	holdApart(t, got)
	kept := copyAll(got)
	again := Convert(p)
	if !same(again, kept) {
		t.Errorf("asked twice, it answers two things of %s", whole(p))
	}
	spoil(reflect.ValueOf(again))
	if !reflect.DeepEqual(p, before) || !reflect.DeepEqual(got, kept) {
		t.Errorf("what was handed in, or another answer, changes with an answer: %s", whole(before))
	}
	spoil(reflect.ValueOf(p))
	if !reflect.DeepEqual(got, kept) {
		t.Errorf("an answer changes with what was handed in: %s", whole(before))
	}
}

// holdApart holds that no two lists of an answer share anything.
func holdApart(t *testing.T, got []api.Flat) {
	t.Helper()
	met := map[string]int{}
	places(reflect.ValueOf(got), met)
	for place, number := range met {
		if number > 1 {
			t.Fatalf("%s stands %d times in %s", place, number, whole(got))
		}
	}
}

// roomy is a value whose lists have room behind their ends, which is not noughts.
func roomy(v reflect.Value) {
	switch v.Kind() {
	case reflect.Struct:
		for i := range v.NumField() {
			roomy(v.Field(i))
		}
	case reflect.Slice:
		for i := range v.Len() {
			roomy(v.Index(i))
		}
		if n := v.Len(); n > 0 {
			v.Set(reflect.Append(v, v.Index(n-1)).Slice(0, n))
		}
	}
}

// holdRoom holds that nothing was put behind the ends of lists that roomy has made: the last element still stands there
// twice.
func holdRoom(t *testing.T, v reflect.Value) {
	t.Helper()
	switch v.Kind() {
	case reflect.Struct:
		for i := range v.NumField() {
			holdRoom(t, v.Field(i))
		}
	case reflect.Slice:
		n := v.Len()
		if n == 0 {
			return
		}
		if more := v.Slice(0, n+1); !reflect.DeepEqual(more.Index(n).Interface(), more.Index(n-1).Interface()) {
			t.Errorf("behind %s stands %s", whole(v.Interface()), whole(more.Index(n).Interface()))
		}
		for i := range n {
			holdRoom(t, v.Index(i))
		}
	}
}

// fullText has functions within functions, and casts of all sorts.
const fullText = `fn f(n: int): int = if n < 1 then 0 else n + f(n - 1);
fn u(x) = x;
fn id[A <: {a: int -> {c: str}}](x: A): A = (fn (y) => u(x))(1);
fn main(x) =
 let r: {b: int, a: any} = {b: read(), a: {c: u}};
 let s = {r with c: u(r).a.c(5) + -f(4)};
 let g: int -> any = fn (n: int): any => {a: s, b: fn (m: int) => fn (k) => {c: k + m, d: r.a}};
 let h: any = fn (n: int): any => g(n);
 let p = print({s: s, d: not (h(1) == 2), e: "x" ++ u("y"), f: h is function});
 let q = id[{a: int -> {c: str}}](((u(s) as {a: any -> {c: any}}) as any) as {a: int -> {c: str}});
 (((((fn (z) => h(q)(z)) as any) as {a: int, b: {c: any}}) as any) as any) as any -> {d: int};`

// R3, R5: what is handed in stays as it was, and what is answered is the caller's own.
func TestOwn(t *testing.T) {
	p := program(t, fullText)
	for _, given := range []api.Program{p, norm.Norm(p, false), norm.Norm(p, true)} {
		holdAll(t, given)
		holdOwn(t, copyAll(given))
		more := copyAll(given)
		roomy(reflect.ValueOf(&more).Elem())
		if got := Convert(more); !same(got, read(given)) || !same(more, given) {
			t.Error(whole(got))
		}
		holdRoom(t, reflect.ValueOf(more))
		holdOwn(t, more)
	}
}

// R3: all lists that a core, a type and a coercion have, also where no program has them.
func TestOwnOfEachList(t *testing.T) {
	types := []api.Type{typ("{a: int -> {b: str | null}, c: any}"), {Kind: api.TUnion, Name: "n", Names: []string{"x"}, Kids: []api.Type{{Names: []string{"y"}}}}}
	co := api.Co{
		Tags: make([]int, 6), Needs: []api.Need{{Name: "d", Label: 5}, {Name: "e", Label: 7}}, Names: []string{"a", "b"},
		Fields: []api.Co{made("any", "{a: int}", 4), made("any", "int -> any -> int", 6)},
		Fun:    []api.Co{made("any", "{c: int, b: str -> int}", 8), {Names: []string{"z"}}},
	}
	for kind := range api.CKinds {
		k := api.Core{Kind: kind, N: 1, Text: "t", Ints: []int{1, 2}, Names: []string{"a", "b"}, Types: types, Cos: []api.Co{co, made("any", "str", 2)}, Kids: []api.Core{vari(1)}}
		for range 3 {
			holdOwn(t, copyAll(byHand(k, fn(k))))
			// Its lists are met twice and more.
			holdApart(t, Convert(byHand(k, let(k, fn(let(k, fn(k)))))))
			k.Kids = []api.Core{k, fn(k)}
		}
	}
}

// R3, over made-up programs.
func TestOwnMadeUp(t *testing.T) {
	c := chance(777)
	for range 500 {
		holdOwn(t, copyAll(byHand(c.anyCore(1+c.below(7), 1), c.anyCore(1+c.below(7), 1))))
	}
}
