package run

import (
	"reflect"
	"slices"
	"testing"

	"gradus/api"
	"gradus/coerce"
)

// copyAll is a value with lists of its own throughout.
func copyAll[T any](v T) T {
	return copyValue(reflect.ValueOf(v)).Interface().(T)
}

func copyValue(v reflect.Value) reflect.Value {
	out := reflect.New(v.Type()).Elem()
	switch v.Kind() {
	case reflect.Struct:
		for i := range v.NumField() {
			out.Field(i).Set(copyValue(v.Field(i)))
		}
	case reflect.Slice:
		if !v.IsNil() {
			out.Set(reflect.MakeSlice(v.Type(), v.Len(), v.Len()))
		}
		for i := range v.Len() {
			out.Index(i).Set(copyValue(v.Index(i)))
		}
	default:
		out.Set(v)
	}
	return out
}

// spoil writes noughts over all elements of all lists, the room behind them included.
func spoil(v reflect.Value) {
	switch v.Kind() {
	case reflect.Struct:
		for i := range v.NumField() {
			spoil(v.Field(i))
		}
	case reflect.Slice:
		v = v.Slice(0, v.Cap())
		for i := range v.Len() {
			spoil(v.Index(i))
			v.Index(i).SetZero()
		}
	}
}

// ownText has each kind of core, and ends as the number says that is read last.
const ownText = `fn f(n: int): int = if n < 1 then 0 else n + f(n - 1);
fn u(x) = x;
fn ends(n: int): any = if n == 0 then u(1) ++ "s" else if n == 1 then 1 / 0 else if n == 2 then ends(n) else {n: n};
fn main(x) =
 let r: {b: int, a: any} = {b: read(), a: {c: u}};
 let s = {r with c: u(r).a.c(5) + -f(4)};
 let g: int -> any = u;
 let h: any = fn (n: int): any => g(n);
 let p = print({s: s, d: not (h(1) == 2), e: "x" ++ u("y"), f: h is function});
 let q = print(u(s));
 ends(read());`

// R3: what is handed in stays as it was, and what is answered is the caller's own. R5: nothing hangs on what was asked before.
func TestOwn(t *testing.T) {
	good := program(t, ownText)
	trims := copyAll(good)
	for i := range trims.Funs {
		trims.Funs[i].Body = withCoercions(trims.Funs[i].Body, true, new(int))
	}
	ends := []int{api.EndBlame, api.EndTrap, api.EndFuel, api.EndDone}
	for _, given := range []api.Program{good, trims} {
		before := copyAll(given)
		var first []api.Trace
		for last, end := range ends {
			input := []int{7, last, 9}
			kept := slices.Clone(input)
			tr := Run(given, input, 50)
			first = append(first, tr)
			if tr.End != end || len(tr.Lines) != 4 {
				t.Errorf("%d: %s", last, told(tr))
			}
			if !reflect.DeepEqual(given, before) || !slices.Equal(input, kept) {
				t.Errorf("%d: what was handed in has become something else", last)
			}
		}
		kept := copyAll(first)
		for last := range ends {
			again := Run(given, []int{7, last, 9}, 50)
			if !same(again, kept[last]) {
				t.Errorf("%d: asked twice, it answers two things", last)
			}
			spoil(reflect.ValueOf(&again).Elem())
		}
		if !reflect.DeepEqual(given, before) {
			t.Error("what was handed in changes with what was answered")
		}
		spoil(reflect.ValueOf(&given).Elem())
		if !reflect.DeepEqual(first, kept) {
			t.Error("an answer changes with what was handed in, or with another answer")
		}
	}
}

// R3, over made-up programs: neither they nor what is read changes.
func TestOwnMadeUp(t *testing.T) {
	programs(t, 777, 300, maker{}, func(text string, p api.Program) {
		before, input := copyAll(p), slices.Clone(someInput)
		tr := Run(p, input, someFuel)
		if !reflect.DeepEqual(p, before) || !slices.Equal(input, someInput) {
			t.Fatal(text, "what was handed in has become something else")
		}
		if again := Run(before, someInput, someFuel); !same(tr, again) {
			t.Fatal(text, told(tr), told(again))
		}
	})
}

// R3: coercions that come in by CCo are not written to, though they are put together.
func TestOwnCoercions(t *testing.T) {
	c, d := onField("a", noStr(3)), onField("a", coerce.Compose(noStr(5), noInt(7)))
	body := sel(coerced(d, coerced(c, rec("a", num(1)))), "a")
	p := byHand(rec("x", sel(coerced(c, rec("a", num(1))), "a"), body))
	p.Funs[0].Body.Names = []string{"x", "y"}
	before := copyAll(p)
	for range 3 {
		if got := told(Run(p, nil, 0)); got != "blame 7" {
			t.Error(got)
		}
		if !reflect.DeepEqual(p, before) {
			t.Error("what was handed in has become something else")
		}
	}
}
