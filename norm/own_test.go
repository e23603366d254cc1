package norm

import (
	"fmt"
	"reflect"
	"testing"

	"gradus/api"
)

// spoil writes noughts over all elements of all lists, the room behind them included.
func spoil(v reflect.Value) {
	switch v.Kind() {
	case reflect.Struct:
		for i := range v.NumField() {
			spoil(v.Field(i))
		}
	case reflect.Slice:
		v = v.Slice(0, v.Cap())
		for i := range v.Len() {
			spoil(v.Index(i))
			v.Index(i).SetZero()
		}
	}
}

// places gathers where all elements of all lists stand, the room behind them included, and tells of each that stands
// twice.
func places(v reflect.Value, met map[string]int) {
	switch v.Kind() {
	case reflect.Struct:
		for i := range v.NumField() {
			places(v.Field(i), met)
		}
	case reflect.Slice:
		v = v.Slice(0, v.Cap())
		for i := range v.Len() {
			met[fmt.Sprint(v.Type(), v.Index(i).Addr().Pointer())]++
			places(v.Index(i), met)
		}
	}
}

// holdOwn holds that a program stays as it was, at every depth, and that what is answered hangs on nothing of it, nor
// any part of that on another one.
func holdOwn(t *testing.T, p api.Program, trim bool) {
	t.Helper()
	before := copyAll(p)
	got := Norm(p, trim)
	if !reflect.DeepEqual(p, before) {
		t.Fatalf("%v: %s\nhas become %s", trim, whole(before), whole(p))
	}
	met := map[string]int{}
	places(reflect.ValueOf(got), met)
	for place, number := range met {
		if number > 1 {
			t.Fatalf("%v: %s stands %d times in what is answered of %s", trim, place, number, whole(p))
		}
	}
	kept := copyAll(got)
	if again := Norm(p, trim); !same(again, kept) {
		t.Errorf("%v: asked twice, it answers two things of %s", trim, whole(p))
	} else {
		spoil(reflect.ValueOf(again))
	}
	if !reflect.DeepEqual(p, before) || !reflect.DeepEqual(got, kept) {
		t.Errorf("%v: what was handed in, or another answer, changes with an answer: %s", trim, whole(before))
	}
	spoil(reflect.ValueOf(p))
	if !reflect.DeepEqual(got, kept) {
		t.Errorf("%v: an answer changes with what was handed in: %s", trim, whole(before))
	}
}

// roomy is a value whose lists have room behind their ends, which is not noughts.
func roomy(v reflect.Value) {
	switch v.Kind() {
	case reflect.Struct:
		for i := range v.NumField() {
			roomy(v.Field(i))
		}
	case reflect.Slice:
		for i := range v.Len() {
			roomy(v.Index(i))
		}
		if n := v.Len(); n > 0 {
			v.Set(reflect.Append(v, v.Index(n-1)).Slice(0, n))
		}
	}
}

// fullText has casts of all sorts.
const fullText = `fn f(n: int): int = if n < 1 then 0 else n + f(n - 1);
fn u(x) = x;
fn id[A <: {a: int -> {c: str}}](x: A): A = u(x);
fn main(x) =
 let r: {b: int, a: any} = {b: read(), a: {c: u}};
 let s = {r with c: u(r).a.c(5) + -f(4)};
 let g: int -> any = u;
 let h: any = fn (n: int): any => g(n);
 let p = print({s: s, d: not (h(1) == 2), e: "x" ++ u("y"), f: h is function});
 let q = id[{a: int -> {c: str}}](((u(s) as {a: any -> {c: any}}) as any) as {a: int -> {c: str}});
 (((((1 as any) as str | null) as any) as {a: int, b: {c: any}}) as any) as any -> {d: int};`

// R3, R5: what is handed in stays as it was, and what is answered is the caller's own.
func TestOwn(t *testing.T) {
	p := program(t, fullText)
	for _, given := range []api.Program{p, Norm(p, false), Norm(p, true)} {
		for _, trim := range []bool{false, true} {
			holdOwn(t, copyAll(given), trim)
			more := copyAll(given)
			roomy(reflect.ValueOf(&more).Elem())
			before := copyAll(more)
			if got := Norm(more, trim); !same(got, read(given, trim)) || !reflect.DeepEqual(more, before) {
				t.Error(trim, whole(got))
			}
			holdRoom(t, reflect.ValueOf(more))
			holdOwn(t, more, trim)
		}
	}
}

// holdRoom holds that nothing was put behind the ends of lists that roomy has made: the last element still stands there
// twice.
func holdRoom(t *testing.T, v reflect.Value) {
	t.Helper()
	switch v.Kind() {
	case reflect.Struct:
		for i := range v.NumField() {
			holdRoom(t, v.Field(i))
		}
	case reflect.Slice:
		n := v.Len()
		if n == 0 {
			return
		}
		if more := v.Slice(0, n+1); !reflect.DeepEqual(more.Index(n).Interface(), more.Index(n-1).Interface()) {
			t.Errorf("behind %s stands %s", whole(v.Interface()), whole(more.Index(n).Interface()))
		}
		for i := range n {
			holdRoom(t, v.Index(i))
		}
	}
}

// R3: all lists that a core, a type and a coercion have, also where no program has them.
func TestOwnOfEachList(t *testing.T) {
	types := []api.Type{typ("{a: int -> {b: str | null}, c: any}"), {Kind: api.TUnion, Name: "n", Names: []string{"x"}, Kids: []api.Type{{Names: []string{"y"}}}}}
	c := onField("a", onFun(needs("b", 2), onField("c", tags(3))))
	c.Needs = []api.Need{{Name: "d", Label: 5}, {Name: "e", Label: 7}}
	for kind := range api.CKinds {
		k := api.Core{Kind: kind, N: 1, Text: "t", Ints: []int{1, 2}, Names: []string{"a", "b"}, Types: types, Cos: []api.Co{c}, Kids: []api.Core{variable(1)}}
		for range 3 {
			p := byHand(k, fn(k))
			p.Funs[0].Type = types[0]
			for _, trim := range []bool{false, true} {
				holdOwn(t, copyAll(p), trim)
				if got := Norm(p, trim); !same(got, read(p, trim)) {
					t.Errorf("%v: %s", trim, whole(got))
				}
			}
			// Within itself, and beside itself: its lists are met twice and more.
			k.Kids = []api.Core{k}
		}
		k.Kids = []api.Core{k, k}
		p := byHand(k, k)
		for _, trim := range []bool{false, true} {
			got := Norm(p, trim)
			if kind != api.CCast && kind != api.CCo && !same(got, read(p, trim)) {
				t.Errorf("%v: %s", trim, whole(got))
			}
			met := map[string]int{}
			places(reflect.ValueOf(got), met)
			for place, number := range met {
				if number > 1 {
					t.Fatalf("%v: %s stands %d times in %s", trim, place, number, whole(got))
				}
			}
		}
	}
}

// R3, over made-up programs.
func TestOwnMadeUp(t *testing.T) {
	programs(t, 777, 150, maker{}, func(text string, p api.Program) {
		for _, trim := range []bool{false, true} {
			holdOwn(t, copyAll(p), trim)
			holdOwn(t, Norm(p, !trim), trim)
		}
	})
}
