package flat

import (
	"fmt"
	"reflect"
	"slices"
	"testing"

	"gradus/api"
	"gradus/coerce"
)

// copyAll is a value with lists of its own throughout.
func copyAll[T any](v T) T {
	return copyValue(reflect.ValueOf(v)).Interface().(T)
}

func copyValue(v reflect.Value) reflect.Value {
	out := reflect.New(v.Type()).Elem()
	switch v.Kind() {
	case reflect.Struct:
		for i := range v.NumField() {
			out.Field(i).Set(copyValue(v.Field(i)))
		}
	case reflect.Slice:
		if !v.IsNil() {
			out.Set(reflect.MakeSlice(v.Type(), v.Len(), v.Len()))
		}
		for i := range v.Len() {
			out.Index(i).Set(copyValue(v.Index(i)))
		}
	default:
		out.Set(v)
	}
	return out
}

// spoil writes noughts over all elements of all lists, the room behind them included.
func spoil(v reflect.Value) {
	switch v.Kind() {
	case reflect.Struct:
		for i := range v.NumField() {
			spoil(v.Field(i))
		}
	case reflect.Slice:
		v = v.Slice(0, v.Cap())
		for i := range v.Len() {
			spoil(v.Index(i))
			v.Index(i).SetZero()
		}
	}
}

// roomy gives each list room behind its end, where its last element stands again.
func roomy(v reflect.Value) {
	switch v.Kind() {
	case reflect.Struct:
		for i := range v.NumField() {
			roomy(v.Field(i))
		}
	case reflect.Slice:
		for i := range v.Len() {
			roomy(v.Index(i))
		}
		if n := v.Len(); n > 0 {
			v.Set(reflect.Append(v, v.Index(n-1)).Slice(0, n))
		}
	}
}

// behindEnds tells all that stands behind the ends of lists.
func behindEnds(v reflect.Value) string {
	out := ""
	switch v.Kind() {
	case reflect.Struct:
		for i := range v.NumField() {
			out += behindEnds(v.Field(i))
		}
	case reflect.Slice:
		for i := range v.Len() {
			out += behindEnds(v.Index(i))
		}
		out += fmt.Sprint(v.Slice(v.Len(), v.Cap()).Interface())
	}
	return out
}

// ownText has each kind of core, and ends as the number says that is read last.
const ownText = `fn f(n: int): int = if n < 1 then 0 else n + f(n - 1);
fn u(x) = x;
fn ends(n: int): any = if n == 0 then u(1) ++ "s" else if n == 1 then 1 / 0 else if n == 2 then ends(n) else {n: n};
fn main(x) =
 let r: {b: int, a: any} = {b: read(), a: {c: u}};
 let s = {r with c: u(r).a.c(5) + -f(4)};
 let g: int -> any = u;
 let h: any = fn (n: int): any => let k = n; let j = fn (y) => {a: g(k), b: s.b}; j(r).a;
 let p = print({s: s, d: not (h(1) == 2), e: "x" ++ u("y"), f: h is function});
 let q = print(u(s));
 ends(read());`

// R3: what is handed in stays as it was, and what is answered is the caller's own. R5: nothing hangs on what was asked
// before.
func TestOwn(t *testing.T) {
	p := program(t, ownText)
	ends := []int{api.EndBlame, api.EndTrap, api.EndFuel, api.EndDone}
	for _, given := range forms(p) {
		roomy(reflect.ValueOf(&given).Elem())
		before, behind := copyAll(given), behindEnds(reflect.ValueOf(given))
		var first []api.Trace
		for last, end := range ends {
			input := []int{7, last, 9}
			tr := Run(given, p.Main, input, 50)
			first = append(first, tr)
			if tr.End != end || len(tr.Lines) != 4 {
				t.Errorf("%d: %s", last, told(tr))
			}
			if !reflect.DeepEqual(given, before) || behindEnds(reflect.ValueOf(given)) != behind || !slices.Equal(input, []int{7, last, 9}) {
				t.Errorf("%d: what was handed in has become something else", last)
			}
			spoil(reflect.ValueOf(input))
		}
		kept := copyAll(first)
		for last := range ends {
			again := Run(given, p.Main, []int{7, last, 9}, 50)
			if !same(again, kept[last]) {
				t.Errorf("%d: asked twice, it answers two things", last)
			}
			spoil(reflect.ValueOf(&again).Elem())
		}
		if !reflect.DeepEqual(given, before) {
			t.Error("what was handed in changes with what was answered")
		}
		spoil(reflect.ValueOf(given))
		if !reflect.DeepEqual(first, kept) {
			t.Error("an answer changes with what was handed in, or with another answer")
		}
	}
}

// R3, R5, over made-up programs and any functions: neither they nor what is read changes, at every depth.
func TestOwnMadeUp(t *testing.T) {
	hold := func(what string, l []api.Flat, main int) {
		t.Helper()
		before, input := copyAll(l), slices.Clone(someInputs[2])
		tr := Run(l, main, input, 60)
		if !reflect.DeepEqual(l, before) || !slices.Equal(input, someInputs[2]) {
			t.Fatal(what, "what was handed in has become something else")
		}
		if again := Run(before, main, someInputs[2], 60); !same(tr, again) {
			t.Fatal(what, told(tr), told(again))
		}
	}
	programs(t, 777, 200, maker{}, func(text string, p api.Program) {
		for _, l := range forms(p) {
			hold(text, l, p.Main)
		}
	})
	c := chance(31337)
	for range 1500 {
		hold("any functions: ", c.anyFlats(), 0)
	}
}

// R3: coercions that come in by CCo are not written to, though they are put together.
func TestOwnCoercions(t *testing.T) {
	c, d := onField("a", noStr(3)), onField("a", coerce.Compose(noStr(5), noInt(7)))
	r := rec("a", num(1))
	l := byHand(rec("x y", sel(coerced(r, c), "a"), sel(coerced(r, c, d), "a")))
	roomy(reflect.ValueOf(&l).Elem())
	before, behind := copyAll(l), behindEnds(reflect.ValueOf(l))
	for range 3 {
		if got := told(Run(l, 0, nil, 0)); got != "blame 7" {
			t.Error(got)
		}
		if !reflect.DeepEqual(l, before) || behindEnds(reflect.ValueOf(l)) != behind {
			t.Error("what was handed in has become something else")
		}
	}
}
