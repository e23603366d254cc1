package check

import (
	"fmt"
	"reflect"
	"strings"
	"testing"

	"gradus/api"
	"gradus/lex"
	"gradus/link"
)

// copyAll is a value with lists of its own throughout.
func copyAll[T any](v T) T {
	return copyValue(reflect.ValueOf(v)).Interface().(T)
}

func copyValue(v reflect.Value) reflect.Value {
	out := reflect.New(v.Type()).Elem()
	switch v.Kind() {
	case reflect.Struct:
		for i := range v.NumField() {
			out.Field(i).Set(copyValue(v.Field(i)))
		}
	case reflect.Slice:
		if !v.IsNil() {
			out.Set(reflect.MakeSlice(v.Type(), v.Len(), v.Len()))
		}
		for i := range v.Len() {
			out.Index(i).Set(copyValue(v.Index(i)))
		}
	default:
		out.Set(v)
	}
	return out
}

// spoil writes noughts over all elements of all lists, the room behind them included.
func spoil(v reflect.Value) {
	switch v.Kind() {
	case reflect.Struct:
		for i := range v.NumField() {
			spoil(v.Field(i))
		}
	case reflect.Slice:
		v = v.Slice(0, v.Cap())
		for i := range v.Len() {
			spoil(v.Index(i))
			v.Index(i).SetZero()
		}
	}
}

// noSharing holds that no two lists begin at the same place or stand in one another's room.
func noSharing(t *testing.T, v reflect.Value, path string, seen map[uintptr]string) {
	t.Helper()
	switch v.Kind() {
	case reflect.Struct:
		for i := range v.NumField() {
			noSharing(t, v.Field(i), path+"."+v.Type().Field(i).Name, seen)
		}
	case reflect.Slice:
		size := v.Type().Elem().Size()
		for i := range v.Cap() {
			at := v.Pointer() + uintptr(i)*size
			if other, there := seen[at]; there {
				t.Errorf("%s shares with %s", path, other)
			}
			seen[at] = path
		}
		for i := range v.Len() {
			noSharing(t, v.Index(i), fmt.Sprint(path, "[", i, "]"), seen)
		}
	}
}

// ownCases have each kind of expression and of cast, types that stand in many places, instances, and Diags.
func ownCases() [][]api.Source {
	all := `main: import a: f, g;
fn h(x: {b: int, a: str -> {c: null | int}}): {a: any} = x;
fn main(x) =
 let r: {a: int | null, b: {c: any}} = {b: {c: x}, a: 1};
 let s = {r with a: r};
 let u = g[{a: int, b: {c: str}}];
 let w = u({a: x, b: {c: "x"}});
 let z = if w is record then {y: w, v: w, r: r} else {y: w, v: w, r: r};
 let k: {b: int, a: any} -> any = fn (q: {b: int, a: any}): {a: {b: int}} => q;
 let o = fn (q: {b: int}) => fn (p: {b: int}) => {q: q, p: p, r: {q: q, p: p}};
 let n = (x as {a: {b: int}}) == ({a: {b: 1}} as {a: {b: str}});
 let m = not n or -x < 3 and x.a.b(r)(s) ++ "x" == print(h);
 if true then o({b: 1})({b: 2}) else g[{a: int} | null](null);`
	lib := "a: export fn f(x: {a: {b: any}}): {a: {b: int}} = x; export fn g[A](x: A): A = let y: any = x; g[A](f({a: {b: y}}) as A);"
	return [][]api.Source{
		sources(all, lib),
		sources("main: fn main(x) = {a: 1, a: 2}; fn f(x: int): str = x; fn g(x: Z) = x;"),
		sources("main: fn f[A](x: A): int = x; fn main(x) = {a: f[str](x), b: f[int](1)};"),
		sources("main: " + many("f", 256) + "fn main(x) = x;"),
	}
}

// R3: what is handed in stays as it was, and what is answered is the caller's own. R5: nothing hangs on what was asked before.
func TestOwn(t *testing.T) {
	for i, l := range ownCases() {
		given := linked(t, l)
		before := copyAll(given)
		p, d := Check(given)
		if !reflect.DeepEqual(given, before) {
			t.Errorf("%d: what was handed in has become something else", i)
		}
		if (len(d) > 0) != (i > 0) {
			t.Errorf("%d: %v", i, d)
		}
		seen := map[uintptr]string{}
		noSharing(t, reflect.ValueOf(p), "program", seen)
		noSharing(t, reflect.ValueOf(d), "diags", seen)
		noSharing(t, reflect.ValueOf(given), "given", seen)
		again, dAgain := Check(given)
		if !reflect.DeepEqual(p, again) || !reflect.DeepEqual(d, dAgain) {
			t.Errorf("%d: asked twice, it answers two things", i)
		}
		spoil(reflect.ValueOf(&again).Elem())
		spoil(reflect.ValueOf(&dAgain).Elem())
		if !reflect.DeepEqual(given, before) {
			t.Errorf("%d: what was handed in changes with what was answered", i)
		}
		third, dThird := Check(given)
		spoil(reflect.ValueOf(&given).Elem())
		if !reflect.DeepEqual(p, third) || !reflect.DeepEqual(d, dThird) {
			t.Errorf("%d: an answer changes with what was handed in, or with another answer", i)
		}
	}
}

// R3, over modules that are made up.
func TestOwnMadeUp(t *testing.T) {
	c := chance(777)
	for i := range 300 {
		k := &maker{chance: &c, sloppy: i % 3}
		given, _ := link.Link(k.makeUp())
		before := copyAll(given)
		p, d := Check(given)
		if !reflect.DeepEqual(given, before) {
			t.Fatalf("%d: what was handed in has become something else", i)
		}
		seen := map[uintptr]string{}
		noSharing(t, reflect.ValueOf(p), "program", seen)
		noSharing(t, reflect.ValueOf(d), "diags", seen)
		noSharing(t, reflect.ValueOf(given), "given", seen)
	}
}

// spoilOne changes one thing somewhere in a value.
func (c *chance) spoilOne(v reflect.Value) {
	switch v.Kind() {
	case reflect.Int:
		v.SetInt(int64([]int{-1, 0, 1, 2, 5, 7, 15, 19, 20, 1 << 40}[c.below(10)]))
	case reflect.Bool:
		v.SetBool(!v.Bool())
	case reflect.String:
		v.SetString([]string{"", "a", "or", "+", "zz", "f0", "main", "\x00"}[c.below(8)])
	case reflect.Struct:
		c.spoilOne(v.Field(c.below(v.NumField())))
	case reflect.Slice:
		switch n := v.Len(); {
		case n > 0 && c.below(4) > 0:
			c.spoilOne(v.Index(c.below(n)))
		case n > 0 && c.below(2) == 0:
			v.Set(v.Slice(0, n-1))
		case n > 0 && c.below(3) == 0:
			v.SetZero()
		default:
			v.Set(reflect.Append(v, reflect.New(v.Type().Elem()).Elem()))
		}
	}
}

// P1: what link has not answered ends, too, and beside Diags there is no program.
func TestSpoilt(t *testing.T) {
	c := chance(4242)
	good, _ := link.Link(ownCases()[0])
	for i := range 4000 {
		given := copyAll(good)
		for range 1 + c.below(3) {
			c.spoilOne(reflect.ValueOf(&given).Elem())
		}
		before := copyAll(given)
		p, d := Check(given)
		if !reflect.DeepEqual(given, before) {
			t.Fatalf("%d: what was handed in has become something else", i)
		}
		if len(d) > 0 && !reflect.DeepEqual(p, api.Program{}) {
			t.Fatalf("%d: %v beside %v", i, p, d)
		}
	}
}

// withBody is a linked program of one function, with that body and these types.
func withBody(body api.Node, types ...api.Type) api.Linked {
	main := api.Entry{Name: "main"}
	d := api.Decl{Name: "main", Param: "x", Types: types, Body: body}
	return api.Linked{Names: []string{"main"}, Modules: []api.Module{{Decls: []api.Decl{d}}}, Scopes: [][]api.Entry{{main}}, Main: main}
}

// P1: what is not there, what there is not, and what stands within itself.
func TestNeverParsed(t *testing.T) {
	two := make([]api.Type, 2)
	for _, l := range []api.Linked{
		{},
		{Names: []string{"main"}},
		{Modules: make([]api.Module, 20)},
		{Modules: []api.Module{{Decls: make([]api.Decl, 3)}}},
		{Scopes: make([][]api.Entry, 5)},
		{Main: api.Entry{Name: "main", Module: -1, Decl: 99}},
		withBody(api.Node{}),
		withBody(api.Node{}, api.Type{}),
		withBody(api.Node{Kind: -1}, two...),
		withBody(api.Node{Kind: api.NKinds}, two...),
	} {
		Check(l)
	}
	for kind := -1; kind <= api.NKinds; kind++ {
		// Without anything, with Kids that are none, and within itself.
		Check(withBody(api.Node{Kind: kind}, two...))
		Check(withBody(api.Node{Kind: kind, Kids: make([]api.Node, 3)}, two...))
		within := make([]api.Node, 3)
		n := api.Node{Kind: kind, Text: "or", Names: []string{"a", "b", "c"}, Types: two, Kids: within}
		for i := range within {
			within[i] = n
		}
		Check(withBody(n, two...))
		// Each twice within the next one: gone through one by one, they would take for ever.
		n = api.Node{Kind: api.NBool}
		for range 60 {
			n = api.Node{Kind: kind, Text: "or", Names: []string{"a", "b", "c"}, Types: two, Kids: []api.Node{n, n, n}}
		}
		Check(withBody(n, two...))
	}
	loop := api.Type{Kind: api.TRec, Names: []string{"a"}, Kids: make([]api.Type, 1)}
	loop.Kids[0] = loop
	Check(withBody(api.Node{Kind: api.NNull}, loop, loop))
	Check(withBody(api.Node{Kind: api.NAs, Types: []api.Type{loop}, Kids: make([]api.Node, 1)}, two...))
}

// P1: the longest and the deepest that a text may have.
func TestLong(t *testing.T) {
	for _, c := range [][2]string{{"1", " + 1"}, {"x", " + x"}, {"true", " or x"}, {"x", ".a"}, {"x", "(1)"}, {"x", " ++ x"}} {
		n := (api.MaxTokens - len(tokensOf(t, "fn main(x) = x;"))) / len(tokensOf(t, c[1]))
		p, d := Check(linked(t, sources("main: fn main(x) = "+c[0]+strings.Repeat(c[1], n)+";")))
		if len(d) > 0 || len(p.Funs) != 1 {
			t.Error(c, d)
		}
	}
	deep := strings.Repeat("let a: any = 1; ", 90)
	p, d := Check(linked(t, sources("main: fn main(x) = "+deep+"a;")))
	if len(d) > 0 || len(p.Sites) != 90 {
		t.Error(d, len(p.Sites))
	}
	wide := "{" + strings.Repeat("a: x, ", 1000) + "b: x}"
	holdDiags(t, sources("main: fn main(x) = @1"+wide+";"), at('1', api.ErrTwice))
	var all []string
	for i := range 1000 {
		all = append(all, fmt.Sprintf("a%d: x", i))
	}
	holdDiags(t, sources("main: fn main(x) = @1{"+strings.Join(all, ", ")+"};"), at('1', api.ErrType))
}

func tokensOf(t *testing.T, text string) []api.Token {
	t.Helper()
	l, d := lex.Lex(text)
	if d.E != api.OK {
		t.Fatal(text, d)
	}
	return l[:len(l)-1]
}
