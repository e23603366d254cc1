package run

import (
	"fmt"
	"testing"

	"gradus/api"
	"gradus/coerce"
)

// eachTag is a value of each tag.
func eachTag() [api.Tags]api.Core {
	return [api.Tags]api.Core{nothing(), boolean(1), num(8), str("s"), rec("a", num(1)), fn(num(2))}
}

var shownTags = [api.Tags]string{"null", "true", "8", `"s"`, "{a: 1}", "fn"}

// tags is a coercion with just these labels, and noughts behind them.
func tags(labels ...int) api.Co {
	return api.Co{Tags: append(labels, make([]int, api.Tags-len(labels))...)}
}

// onField, onFun: coercions that do nothing else.
func onField(name string, c api.Co) api.Co {
	return api.Co{Tags: make([]int, api.Tags), Names: []string{name}, Fields: []api.Co{c}}
}

func onFun(takes, answers api.Co) api.Co {
	return api.Co{Tags: make([]int, api.Tags), Fun: []api.Co{takes, answers}}
}

// blamed is a coercion that blames the label for each value.
func blamed(label int) api.Co { return tags(label, label, label, label, label, label) }

// noInt blames the label for numbers, noStr for strings.
func noInt(label int) api.Co { return tags(0, 0, label) }
func noStr(label int) api.Co { return tags(0, 0, 0, label) }

// P11.1: CCast blames by the tag, with 2 N and 2.
func TestBlameByTag(t *testing.T) {
	for site := range 5 {
		for to, is := range map[string]int{"null": 0, "bool": 1, "int": 2, "str": 3, "{}": 4, "any -> any": 5} {
			for tag, v := range eachTag() {
				want := "done " + shownTags[tag]
				if tag != is {
					want = fmt.Sprint("blame ", 2*site+2)
				}
				holdCores(t, cores{cast(site, "any", to, v), want})
			}
		}
	}
	for tag, v := range eachTag() {
		holdCores(t,
			cores{coerced(tags(3, 4, 5, 6, 7, 8), v), fmt.Sprint("blame ", 3+tag)},
			cores{coerced(coerce.Id(), v), "done " + shownTags[tag]},
			cores{cast(0, "any", "any", v), "done " + shownTags[tag]},
			cores{cast(3, "any", "int | null", v), []string{"done null", "blame 8", "done 8", "blame 8", "blame 8", "blame 8"}[tag]},
		)
		// All tags but its own.
		labels := []int{9, 9, 9, 9, 9, 9}
		labels[tag] = 0
		holdCores(t, cores{coerced(tags(labels...), v), "done " + shownTags[tag]})
	}
	holdRuns(t,
		runs{"fn main(x) = @1x + 1;", "blame own 1"},
		runs{"fn main(x) = 1 + @1x;", "blame own 1"},
		runs{"fn main(x) = let a = print(2); x@1(1);", "print 2; blame own 1"},
		runs{"fn main(x) = let a = print(2); x@1.a;", "print 2; blame own 1"},
		runs{"fn main(x) = (1 @1as str) ++ \"a\";", "blame own 1"},
		runs{"fn main(x): int = @1x;", "blame own 1"},
		runs{"fn f(x): str = x; fn main(x) = f(\"a\") ++ f(\"b\");", `done "ab"`},
		runs{"fn f(x): str = @1x; fn main(x) = f(\"a\") ++ f(1);", "blame own 1"},
	)
}

// P11.1: Needs are looked at first, in their order, of a record alone.
func TestNeeds(t *testing.T) {
	needs := func(rec int, list ...api.Need) api.Co {
		c := tags(0, 0, 0, 0, rec)
		c.Needs = list
		return c
	}
	b3, a5, c7 := api.Need{Name: "b", Label: 3}, api.Need{Name: "a", Label: 5}, api.Need{Name: "c", Label: 7}
	for _, c := range []struct {
		names string
		free  string // where the tag is not blamed
		taken string // where it is, by 9
	}{
		{"", "blame 3", "blame 3"},
		{"a", "blame 3", "blame 3"},
		{"a c", "blame 3", "blame 3"},
		{"b", "blame 5", "blame 5"},
		{"c b", "blame 5", "blame 5"},
		{"a b", "blame 7", "blame 7"},
		{"a b c", "done {a: 1, b: 1, c: 1}", "blame 9"},
		{"d c b a", "done {a: 1, b: 1, c: 1, d: 1}", "blame 9"},
	} {
		one := []api.Core{num(1), num(1), num(1), num(1)}
		r := rec(c.names)
		r.Kids = one[:len(r.Names)]
		holdCores(t, cores{coerced(needs(0, b3, a5, c7), r), c.free}, cores{coerced(needs(9, b3, a5, c7), r), c.taken})
	}
	// Others need nothing, but for what their tag says.
	for tag, v := range eachTag() {
		if tag != api.TagRec {
			holdCores(t, cores{coerced(needs(9, b3, c7), v), "done " + shownTags[tag]})
		}
	}
	// A record that bears something has the names that it has, whatever that is.
	holdCores(t,
		cores{coerced(needs(0, b3), coerced(onField("b", noInt(11)), rec("a", num(1)))), "blame 3"},
		cores{coerced(needs(0, b3), coerced(onField("b", noInt(11)), rec("b", num(1)))), "done {b: 1}"},
	)
	holdRuns(t,
		runs{"fn f(r) = r; fn main(x) = f({b: 1})@1.a;", "blame own 1"},
		runs{"fn f(r) = r; fn main(x) = f({b: 1})@1.b;", "done 1"},
		runs{"fn f(r): {a: int, b: int} = @1r; fn main(x) = f({b: 1});", "blame own 1"},
		runs{"fn f(r): {a: int, b: int} = @1r; fn main(x) = f({b: 1, a: null});", "done {a: null, b: 1}"},
		runs{"fn f(r: {a: int} | null): int = (r @1as {a: int}).a; fn main(x) = f({a: 3}) + f(null);", "blame own 1"},
	)
}

// P11.1: what a function takes blames the other side, ahead of its body; what it answers its own side, behind it.
func TestBlameByCalls(t *testing.T) {
	body := let(core(api.CPrint, variable(1)), variable(1))
	f := func(from, to string) api.Core { return cast(0, from, to, fn(body)) }
	holdCores(t,
		cores{call(f("any", "int -> int"), num(1)), "print 1; done 1"},
		cores{call(f("any", "int -> str"), num(1)), "print 1; blame 2"},
		cores{call(f("int -> int", "any"), num(1)), "print 1; done 1"},
		cores{call(f("int -> int", "any"), str("s")), "blame 3"},
		cores{call(f("int -> int", "any -> any"), nothing()), "blame 3"},
		cores{call(f("any -> any", "int -> str"), num(4)), "print 4; blame 2"},
		cores{call(coerced(onFun(noInt(5), noInt(6)), fn(body)), num(4)), "blame 5"},
		cores{call(coerced(onFun(noStr(5), noInt(6)), fn(body)), num(4)), "print 4; blame 6"},
		cores{call(coerced(onFun(noStr(5), noInt(6)), fn(body)), nothing()), "print null; done null"},
		// A trap or the end within the body comes first.
		cores{call(coerced(onFun(noStr(5), blamed(6)), fn(numbered(api.COp, api.OpDiv, variable(1), num(0)))), num(4)), "trap 1"},
		// What is not called is not looked at.
		cores{f("int -> int", "any"), "done fn"},
		cores{rec("f", coerced(onFun(blamed(5), blamed(6)), fn(body))), "done {f: fn}"},
	)
	holdRuns(t,
		runs{"fn ap(f: int -> int): int = f(1); fn g(n) = \"s\"; fn main(x) = ap(@1g);", "blame own 1"},
		runs{"fn ap(f: any -> any): any = f(\"s\"); fn g(n: int): int = n; fn main(x) = ap(@1g);", "blame other 1"},
		runs{"fn ap(f) = f@2(\"s\"); fn g(n: int): int = n; fn main(x) = ap(@1g);", "blame other 1"},
		runs{"fn ap(f) = f@2(1) ++ \"s\"; fn g(n: int): int = n; fn main(x) = ap(@1g);", "blame own 2"},
		// Functions that take functions: the other side of the other side is its own one.
		runs{"fn g(f: int -> int): int = f(1); fn main(x) = let h: any = @1g; h(fn (n) => \"s\");", "blame other 1"},
		runs{"fn g(f: any -> any): any = f(\"s\"); fn k(f: (int -> str) -> any): any = f(fn (n: int): str => \"x\"); fn main(x) = let h: any = g; k(@1h);", "blame own 1"},
		runs{"fn g(f): int = f(\"s\"); fn main(x) = let h: (int -> int) -> int = @1g; h(fn (n: int): int => n);", "blame own 1"},
	)
}

// P11.1: coercions that a record bears one behind the other, from the first on.
func TestChainsOfRecords(t *testing.T) {
	r := rec("a b", num(1), str("s"))
	bears := func(v api.Core, list ...api.Co) api.Core {
		for _, c := range list {
			v = coerced(c, v)
		}
		return v
	}
	holdCores(t,
		cores{sel(bears(r, onField("a", noInt(3)), onField("a", noInt(5))), "a"), "blame 3"},
		cores{sel(bears(r, onField("a", noInt(5)), onField("a", noInt(3))), "a"), "blame 5"},
		cores{sel(bears(r, onField("a", noStr(3)), onField("a", noInt(5)), onField("a", blamed(7))), "a"), "blame 5"},
		cores{sel(bears(r, onField("a", noStr(3)), onField("a", noStr(5)), onField("a", blamed(7))), "a"), "blame 7"},
		cores{sel(bears(r, onField("a", noInt(3)), onField("b", noStr(5))), "b"), "blame 5"},
		cores{sel(bears(r, onField("b", noStr(5)), onField("a", noInt(3))), "b"), "blame 5"},
		cores{sel(bears(r, onField("b", noInt(5)), onField("a", noInt(3)), onField("c", blamed(9))), "b"), `done "s"`},
		cores{with(bears(r, onField("b", noStr(5)), onField("a", noInt(3))), "c", num(1)), "blame 3"},
		// One that has no Names is applied, but not borne.
		cores{sel(bears(r, onField("a", noInt(3)), coerce.Id(), tags(9, 9, 9, 9, 0, 9)), "a"), "blame 3"},
		cores{bears(r, onField("a", noInt(3)), tags(0, 0, 0, 0, 9)), "blame 9"},
		// Fields that are records bear what the outer one did, in that order.
		cores{sel(sel(bears(rec("r", r), onField("r", onField("a", noInt(3))), onField("r", onField("a", noInt(5)))), "r"), "a"), "blame 3"},
		cores{sel(sel(bears(rec("r", bears(r, onField("a", noStr(3)))), onField("r", onField("a", noInt(5))), onField("r", onField("a", noInt(7)))), "r"), "a"), "blame 5"},
		cores{sel(sel(bears(rec("r", bears(r, onField("a", noInt(3)))), onField("r", onField("a", noInt(5)))), "r"), "a"), "blame 3"},
		cores{sel(bears(rec("r", r), onField("r", onField("a", noInt(3))), onField("r", tags(0, 0, 0, 0, 5))), "r"), "blame 5"},
	)
	// Needs come ahead of the tag's label, and the former coercion ahead of the latter.
	need := func(name string, label, rec int) api.Co {
		c := tags(0, 0, 0, 0, rec)
		c.Needs = []api.Need{{Name: name, Label: label}}
		return c
	}
	holdCores(t,
		cores{sel(bears(rec("r", r), onField("r", need("a", 3, 4)), onField("r", need("z", 5, 6))), "r"), "blame 4"},
		cores{sel(bears(rec("r", r), onField("r", need("a", 3, 0)), onField("r", need("z", 5, 6))), "r"), "blame 5"},
		cores{sel(bears(rec("r", r), onField("r", need("a", 3, 0)), onField("r", need("a", 5, 6))), "r"), "blame 6"},
		cores{sel(bears(rec("r", r), onField("r", need("z", 3, 0)), onField("r", need("z", 5, 6))), "r"), "blame 3"},
		cores{sel(bears(rec("r", r), onField("r", need("a", 3, 0)), onField("r", need("b", 5, 0)), onField("r", need("z", 7, 0)), onField("r", need("y", 9, 0))), "r"), "blame 7"},
	)
}

// P11.1: coercions that a function bears: what it takes from the last one back, what it answers from the first on.
func TestChainsOfFunctions(t *testing.T) {
	f := fn(variable(1))
	bears := func(v api.Core, list ...api.Co) api.Core {
		for _, c := range list {
			v = coerced(c, v)
		}
		return v
	}
	id := coerce.Id()
	holdCores(t,
		cores{call(bears(f, onFun(noInt(3), id), onFun(noInt(5), id)), num(1)), "blame 5"},
		cores{call(bears(f, onFun(noInt(3), id), onFun(noStr(5), id)), num(1)), "blame 3"},
		cores{call(bears(f, onFun(noInt(3), id), onFun(noInt(5), id), onFun(noInt(7), id)), num(1)), "blame 7"},
		cores{call(bears(f, onFun(noInt(3), id), onFun(noInt(5), id), onFun(noStr(7), id)), num(1)), "blame 5"},
		cores{call(bears(f, onFun(id, noInt(3)), onFun(id, noInt(5))), num(1)), "blame 3"},
		cores{call(bears(f, onFun(id, noStr(3)), onFun(id, noInt(5))), num(1)), "blame 5"},
		cores{call(bears(f, onFun(id, noStr(3)), onFun(id, noInt(5)), onFun(id, noInt(7))), num(1)), "blame 5"},
		cores{call(bears(f, onFun(noStr(3), noInt(4)), onFun(noInt(5), noInt(6))), num(1)), "blame 5"},
		cores{call(bears(f, onFun(noStr(3), noInt(4)), onFun(noStr(5), noInt(6))), num(1)), "blame 4"},
		cores{call(bears(f, onFun(noStr(3), noStr(4)), onFun(noStr(5), noStr(6))), num(1)), "done 1"},
		cores{bears(f, onFun(noStr(3), id), tags(0, 0, 0, 0, 0, 9)), "blame 9"},
		// What is handed in bears what was done to it: here by the last one, and then by the first.
		cores{call(call(bears(f, onFun(onFun(noInt(3), id), id), onFun(onFun(noInt(5), id), id)), f), num(1)), "blame 3"},
		cores{call(call(bears(f, onFun(onFun(id, noInt(3)), id), onFun(onFun(id, noInt(5)), id)), f), num(1)), "blame 5"},
		cores{sel(call(bears(f, onFun(onField("a", noInt(3)), id), onFun(onField("a", noInt(5)), id)), rec("a", num(1))), "a"), "blame 5"},
		cores{sel(call(bears(f, onFun(id, onField("a", noInt(3))), onFun(id, onField("a", noInt(5)))), rec("a", num(1))), "a"), "blame 3"},
		cores{sel(call(bears(f, onFun(onField("a", noInt(3)), onField("a", noInt(5)))), rec("a", num(1))), "a"), "blame 3"},
	)
	holdRuns(t,
		runs{"fn f(n) = n; fn main(x) = let g: int -> any = @1f; let h: any -> int = @2g; h(\"s\");", "blame other 2"},
		runs{"fn f(n) = n; fn main(x) = let g: any -> int = @1f; let h: any -> str = ((g @2as any) @3as any -> str); h(\"s\");", "blame own 1"},
		runs{"fn f(n) = n; fn main(x) = let g: any -> int = @1f; let h: any -> str = ((g @2as any) @3as any -> str); h(4);", "blame own 3"},
	)
}

// P11.1: a value that is coerced anew bears more, and the one that it was stays as it was.
func TestCoercedAnew(t *testing.T) {
	holdCores(t,
		cores{let(rec("a", num(1)), let(coerced(onField("a", noInt(3)), variable(1)), sel(variable(1), "a"))), "done 1"},
		cores{let(coerced(onField("a", noStr(3)), rec("a", num(1))), let(coerced(onField("a", noInt(5)), variable(1)), sel(variable(1), "a"))), "done 1"},
		cores{let(coerced(onField("a", noStr(3)), rec("a", num(1))), let(coerced(onField("a", noInt(5)), variable(1)), sel(variable(2), "a"))), "blame 5"},
		cores{let(fn(num(1)), let(coerced(onFun(blamed(3), blamed(5)), variable(1)), call(variable(1), num(2)))), "done 1"},
	)
}

// P11.1: coercions that differ in one thing alone are not taken for one another, whichever came first.
func TestCoercionsApart(t *testing.T) {
	need := func(name string, label int) api.Co {
		c := coerce.Id()
		c.Needs = []api.Need{{Name: name, Label: label}}
		return c
	}
	id := coerce.Id()
	r := rec("a b r", num(1), num(2), rec("a", num(3)))
	a := func(v api.Core) api.Core { return sel(v, "a") }
	inner := func(v api.Core) api.Core { return sel(sel(v, "r"), "a") }
	called := func(v api.Core) api.Core { return call(v, num(1)) }
	all := []struct {
		v      api.Core
		co     api.Co
		use    func(api.Core) api.Core
		result string
	}{
		{r, onField("a", noInt(3)), a, "blame 3"},
		{r, onField("a", noInt(5)), a, "blame 5"},
		{r, onField("a", noStr(3)), a, "done 1"},
		{r, onField("b", noInt(3)), a, "done 1"},
		{r, onField("r", noInt(3)), inner, "done 3"},
		{r, onField("r", need("x", 3)), inner, "blame 3"},
		{r, onField("r", need("x", 5)), inner, "blame 5"},
		{r, onField("r", need("a", 3)), inner, "done 3"},
		{r, onField("r", onField("a", noInt(3))), inner, "blame 3"},
		{r, onField("r", onField("b", noInt(3))), inner, "done 3"},
		{r, onField("r", onFun(noInt(3), id)), inner, "done 3"},
		{fn(num(7)), onFun(noInt(3), id), called, "blame 3"},
		{fn(num(7)), onFun(id, noInt(3)), called, "blame 3"},
		{fn(num(7)), onFun(noStr(3), noInt(5)), called, "blame 5"},
		{fn(num(7)), onFun(id, onField("a", noInt(3))), called, "done 7"},
		{fn(num(7)), onFun(onField("a", noInt(3)), id), called, "done 7"},
	}
	for _, x := range all {
		for _, y := range all {
			if x.v.Kind == y.v.Kind {
				twice := func(c api.Co, v api.Core) api.Core { return coerced(c, coerced(c, v)) }
				holdCores(t, cores{let(twice(x.co, x.v), y.use(twice(y.co, y.v))), y.result})
			}
		}
	}
}

// P1, P11.1: values that are coerced without end: what they bear does not grow with that.
func TestCoercedWithoutEnd(t *testing.T) {
	// Handed to itself time and again, a function that bore all of them would bear more than can be counted.
	grows := "fn id(x) = x; fn loop(r) = if r.n < 1 then r.g else loop({n: r.n - 1, g: r.g(r.g)}); fn main(x) = loop({n: 500, g: id as %s});"
	high := "any"
	for range 14 {
		high = "any -> (" + high + ")"
	}
	holdTold(t, 2*plenty, "done fn", fmt.Sprintf(grows, high))
	// Back and forth, between a type and any: the first cast comes first in what is answered.
	loop := "fn id(x) = x; fn loop(r: {n: int, f: int -> int}): int = if r.n < 1 then r.f(1) else loop(id({f: id(r.f), n: r.n - 1})); "
	holdTold(t, 1<<30, "done 1", loop+"fn main(x) = loop({f: id, n: 20000});")
	holdTold(t, 1<<30, "blame own 1", loop+"fn main(x) = loop(@1{f: fn (n): any => \"s\", n: 20000});")
	// Two types in turn: the last cast that can be blamed comes first in what is taken.
	holdTold(t, 1<<30, "blame other 1", "fn main(x) = p({n: 20001, f: fn (n) => n}); "+
		"fn p(r: {n: int, f: int -> any}): any = if r.n < 1 then r.f(1) else q({n: r.n - 1, f: r.f as any}); "+
		"fn q(r: {n: int, f: str -> any}): any = p({n: r.n - 1, f: r.f @1as any});")
}
