package flat

import (
	"fmt"
	"testing"

	"gradus/api"
	"gradus/coerce"
)

// tags is a coercion with just these labels, and noughts behind them.
func tags(labels ...int) api.Co {
	return api.Co{Tags: append(labels, make([]int, api.Tags-len(labels))...)}
}

// onField, onFun: coercions that do nothing else.
func onField(name string, c api.Co) api.Co {
	return api.Co{Tags: make([]int, api.Tags), Names: []string{name}, Fields: []api.Co{c}}
}

func onFun(takes, answers api.Co) api.Co {
	return api.Co{Tags: make([]int, api.Tags), Fun: []api.Co{takes, answers}}
}

// blamed is a coercion that blames the label for each value; noInt blames it for numbers, noStr for strings.
func blamed(label int) api.Co { return tags(label, label, label, label, label, label) }
func noInt(label int) api.Co  { return tags(0, 0, label) }
func noStr(label int) api.Co  { return tags(0, 0, 0, label) }

// needing is a coercion that needs names, and has a label for records.
func needing(label int, needs ...api.Need) api.Co {
	c := tags(0, 0, 0, 0, label)
	c.Needs = needs
	return c
}

// tagged are the values of each tag, as they are told.
func tagged() ([]api.Core, []string) {
	return eachValue()[:api.Tags], []string{"null", "true", "8", `"s"`, "{a: 1}", "fn"}
}

// P14.1: CCast blames by the tag, with 2 N and 2, and CCo with its own labels.
func TestBlameByTag(t *testing.T) {
	values, shown := tagged()
	for tag, v := range values {
		for site := range 5 {
			for to, is := range map[string]int{"null": 0, "bool": 1, "int": 2, "str": 3, "{}": 4, "any -> any": 5} {
				want := "done " + shown[tag]
				if tag != is {
					want = fmt.Sprint("blame ", 2*site+2)
				}
				c := cast(site, "any", to, v)
				holdCores(t, tells(want, c, num(1)), tells(want, coerced(v, coerce.Make(c.Types[0], c.Types[1], 2*site+2)), num(1)))
			}
		}
		// All tags but its own.
		labels := []int{9, 9, 9, 9, 9, 9}
		labels[tag] = 0
		holdCores(t,
			tells(fmt.Sprint("blame ", 3+tag), coerced(v, tags(3, 4, 5, 6, 7, 8)), num(1)),
			tells("done "+shown[tag], coerced(v, tags(labels...)), num(1)),
			tells("done "+shown[tag], coerced(v, coerce.Id()), num(1)),
			tells("done "+shown[tag], cast(0, "any", "any", v), num(1)),
			tells([]string{"done null", "blame 8", "done 8", "blame 8", "blame 8", "blame 8"}[tag], cast(3, "any", "int | null", v), num(1)),
		)
	}
	holdRuns(t,
		runs{"fn main(x) = @1x + 1;", "blame own 1"},
		runs{"fn main(x) = 1 + @1x;", "blame own 1"},
		runs{"fn main(x) = let a = print(2); x@1(1);", "print 2; blame own 1"},
		runs{"fn main(x) = let a = print(2); x@1.a;", "print 2; blame own 1"},
		runs{"fn main(x) = (1 @1as str) ++ \"a\";", "blame own 1"},
		runs{"fn main(x): int = @1x;", "blame own 1"},
		runs{"fn f(x): str = x; fn main(x) = f(\"a\") ++ f(\"b\");", `done "ab"`},
		runs{"fn f(x): str = @1x; fn main(x) = f(\"a\") ++ f(1);", "blame own 1"},
		runs{"fn main(x) = let a = 1; let f = fn (y: any): str => a @1as any; f(2);", "blame own 1"},
	)
}

// P14.1: Needs are looked at first, in their order, of a record alone.
func TestNeeds(t *testing.T) {
	b3, a5, c7 := api.Need{Name: "b", Label: 3}, api.Need{Name: "a", Label: 5}, api.Need{Name: "c", Label: 7}
	for _, c := range []struct {
		names string
		free  string // where the tag is not blamed
		taken string // where it is, by 9
	}{
		{"", "blame 3", "blame 3"},
		{"a", "blame 3", "blame 3"},
		{"a c", "blame 3", "blame 3"},
		{"b", "blame 5", "blame 5"},
		{"c b", "blame 5", "blame 5"},
		{"a b", "blame 7", "blame 7"},
		{"a b c", "done {a: 1, b: 1, c: 1}", "blame 9"},
		{"d c b a", "done {a: 1, b: 1, c: 1, d: 1}", "blame 9"},
	} {
		r := rec(c.names)
		r.Kids = []api.Core{num(1), num(1), num(1), num(1)}[:len(r.Names)]
		holdCores(t, tells(c.free, coerced(r, needing(0, b3, a5, c7))), tells(c.taken, coerced(r, needing(9, b3, a5, c7))))
	}
	// Others need nothing, but for what their tag says.
	values, shown := tagged()
	for tag, v := range values {
		if tag != api.TagRec {
			holdCores(t, tells("done "+shown[tag], coerced(v, needing(9, b3, c7)), num(1)))
		}
	}
	// A record that bears something has the names that it has, whatever that is.
	holdCores(t,
		tells("blame 3", coerced(rec("a", num(1)), onField("b", noInt(11)), needing(0, b3))),
		tells("done {b: 1}", coerced(rec("b", num(1)), onField("b", noInt(11)), needing(0, b3))),
	)
	holdRuns(t,
		runs{"fn f(r) = r; fn main(x) = f({b: 1})@1.a;", "blame own 1"},
		runs{"fn f(r) = r; fn main(x) = f({b: 1})@1.b;", "done 1"},
		runs{"fn f(r): {a: int, b: int} = @1r; fn main(x) = f({b: 1});", "blame own 1"},
		runs{"fn f(r): {a: int, b: int} = @1r; fn main(x) = f({b: 1, a: null});", "done {a: null, b: 1}"},
		runs{"fn f(r: {a: int} | null): int = (r @1as {a: int}).a; fn main(x) = f({a: 3}) + f(null);", "blame own 1"},
	)
}

// P14.1: what a function takes blames the other side, ahead of its body; what it answers its own side, behind it.
func TestBlameByCalls(t *testing.T) {
	// It was made with 20, and tells that and what it takes.
	body := let(print(variable(0)), let(print(variable(1)), variable(1)))
	made := func(from, to string) api.Core { return let(num(20), cast(0, from, to, makes(1, 1))) }
	bears := func(c api.Co) api.Core { return let(num(20), coerced(makes(1, 1), c)) }
	holdCores(t,
		tells("print 20; print 1; done 1", call(made("any", "int -> int"), num(1)), body),
		tells("print 20; print 1; blame 2", call(made("any", "int -> str"), num(1)), body),
		tells("print 20; print 1; done 1", call(made("int -> int", "any"), num(1)), body),
		tells("blame 3", call(made("int -> int", "any"), str("s")), body),
		tells("blame 3", call(made("int -> int", "any -> any"), nothing()), body),
		tells("print 20; print 4; blame 2", call(made("any -> any", "int -> str"), num(4)), body),
		tells("blame 5", call(bears(onFun(noInt(5), noInt(6))), num(4)), body),
		tells("print 20; print 4; blame 6", call(bears(onFun(noStr(5), noInt(6))), num(4)), body),
		tells("print 20; print null; done null", call(bears(onFun(noStr(5), noInt(6))), nothing()), body),
		// A trap or the end within the body comes first.
		tells("trap 1", call(coerced(global(1), onFun(noStr(5), blamed(6))), num(4)), numbered(api.COp, api.OpDiv, variable(0), num(0))),
		tells("blame 9", call(coerced(global(1), onFun(noStr(5), blamed(6))), num(4)), coerced(num(1), blamed(9))),
		// What is not called is not looked at.
		tells("done fn", made("int -> int", "any"), body),
		tells("done {f: fn}", rec("f", bears(onFun(blamed(5), blamed(6)))), body),
	)
	holdRuns(t,
		runs{"fn ap(f: int -> int): int = f(1); fn g(n) = \"s\"; fn main(x) = ap(@1g);", "blame own 1"},
		runs{"fn ap(f: any -> any): any = f(\"s\"); fn g(n: int): int = n; fn main(x) = ap(@1g);", "blame other 1"},
		runs{"fn ap(f) = f@2(\"s\"); fn g(n: int): int = n; fn main(x) = ap(@1g);", "blame other 1"},
		runs{"fn ap(f) = f@2(1) ++ \"s\"; fn g(n: int): int = n; fn main(x) = ap(@1g);", "blame own 2"},
		// Functions that take functions: the other side of the other side is its own one.
		runs{"fn g(f: int -> int): int = f(1); fn main(x) = let h: any = @1g; h(fn (n) => \"s\");", "blame other 1"},
		runs{"fn g(f: any -> any): any = f(\"s\"); fn k(f: (int -> str) -> any): any = f(fn (n: int): str => \"x\"); fn main(x) = let h: any = g; k(@1h);", "blame own 1"},
		runs{"fn g(f): int = f(\"s\"); fn main(x) = let h: (int -> int) -> int = @1g; h(fn (n: int): int => n);", "blame own 1"},
		runs{"fn main(x) = let n = 7; let h: any = @1fn (k: int): int => n + k; let p = print(h(1)); h(\"s\");", "print 8; blame other 1"},
	)
}

// P14.1: coercions that a record bears one behind the other, from the first on.
func TestChainsOfRecords(t *testing.T) {
	r := rec("a b", num(1), str("s"))
	need := func(label int) api.Co { return needing(0, api.Need{Name: "z", Label: label}) }
	holdCores(t,
		tells("blame 3", sel(coerced(r, onField("a", noInt(3)), onField("a", noInt(5))), "a")),
		tells("blame 5", sel(coerced(r, onField("a", noInt(5)), onField("a", noInt(3))), "a")),
		tells("blame 5", sel(coerced(r, onField("a", noStr(3)), onField("a", noInt(5)), onField("a", blamed(7))), "a")),
		tells("blame 7", sel(coerced(r, onField("a", noStr(3)), onField("b", noInt(5)), onField("a", noInt(7))), "a")),
		tells("blame 3", sel(coerced(r, onField("b", noStr(3)), onField("a", noInt(5)), onField("b", noStr(7))), "b")),
		tells("blame 5", sel(coerced(r, onField("b", noStr(3)), onField("a", noInt(5)), onField("b", noStr(7))), "a")),
		tells("done 1", sel(coerced(r, onField("b", noStr(3)), onField("b", noStr(5))), "a")),
		tells("done {a: 1, b: \"s\"}", coerced(r, onField("a", noInt(3)), onField("a", noInt(5)))),
		tells("blame 9", coerced(r, onField("a", noInt(3)), tags(0, 0, 0, 0, 9))),
		// CWith reads each field through all of them.
		tells("blame 5", with(coerced(r, onField("a", noStr(3)), onField("a", noInt(5))), "b", num(1))),
		tells("done {a: 0, b: \"s\"}", with(coerced(r, onField("a", noStr(3)), onField("a", noInt(5))), "a", num(0))),
		// Records and functions within: they bear what is done to them, from the first on.
		tells("blame 3", sel(sel(coerced(rec("r", r), onField("r", onField("a", noInt(3))), onField("r", onField("a", noInt(5)))), "r"), "a")),
		tells("blame 5", call(sel(coerced(rec("f", global(1)), onField("f", onFun(noInt(3), coerce.Id())), onField("f", onFun(noInt(5), coerce.Id()))), "f"), num(1)), num(1)),
		tells("blame 3", call(sel(coerced(rec("f", global(1)), onField("f", onFun(coerce.Id(), noInt(3))), onField("f", onFun(coerce.Id(), noInt(5)))), "f"), num(1)), num(1)),
		tells("blame 3", sel(coerced(rec("r", r), onField("r", need(3)), onField("r", need(5))), "r")),
	)
	holdRuns(t,
		runs{"fn main(x) = let r: {a: int} = ({a: \"s\"} @1as any) @2as {a: int}; r.a;", "blame own 2"},
		runs{"fn main(x) = let r = ({a: \"s\"} as any) @1as {a: int}; let s = (r as any) @2as {a: str}; s.a;", "blame own 1"},
		runs{"fn main(x) = let r = ({a: 1} as any) @1as {a: int}; let s = (r as any) @2as {a: str}; s.a;", "blame own 2"},
	)
}

// P14.1: coercions that a function bears: what it takes from the last one back, what it answers from the first on.
func TestChainsOfFunctions(t *testing.T) {
	id, f := coerce.Id(), global(1)
	same := variable(0)
	holdCores(t,
		tells("blame 5", call(coerced(f, onFun(noInt(3), id), onFun(noInt(5), id)), num(1)), same),
		tells("blame 3", call(coerced(f, onFun(noInt(3), id), onFun(noStr(5), id)), num(1)), same),
		tells("blame 7", call(coerced(f, onFun(noInt(3), id), onFun(noInt(5), id), onFun(noInt(7), id)), num(1)), same),
		tells("blame 5", call(coerced(f, onFun(noInt(3), id), onFun(noInt(5), id), onFun(noStr(7), id)), num(1)), same),
		tells("blame 3", call(coerced(f, onFun(id, noInt(3)), onFun(id, noInt(5))), num(1)), same),
		tells("blame 5", call(coerced(f, onFun(id, noStr(3)), onFun(id, noInt(5))), num(1)), same),
		tells("blame 5", call(coerced(f, onFun(id, noStr(3)), onFun(id, noInt(5)), onFun(id, noInt(7))), num(1)), same),
		tells("blame 5", call(coerced(f, onFun(noStr(3), noInt(4)), onFun(noInt(5), noInt(6))), num(1)), same),
		tells("blame 4", call(coerced(f, onFun(noStr(3), noInt(4)), onFun(noStr(5), noInt(6))), num(1)), same),
		tells("done 1", call(coerced(f, onFun(noStr(3), noStr(4)), onFun(noStr(5), noStr(6))), num(1)), same),
		tells("blame 9", coerced(f, onFun(noStr(3), id), tags(0, 0, 0, 0, 0, 9)), same),
		// What is handed in bears what was done to it: here by the last one, and then by the first.
		tells("blame 3", call(call(coerced(f, onFun(onFun(noInt(3), id), id), onFun(onFun(noInt(5), id), id)), f), num(1)), same),
		tells("blame 5", call(call(coerced(f, onFun(onFun(id, noInt(3)), id), onFun(onFun(id, noInt(5)), id)), f), num(1)), same),
		tells("blame 5", sel(call(coerced(f, onFun(onField("a", noInt(3)), id), onFun(onField("a", noInt(5)), id)), rec("a", num(1))), "a"), same),
		tells("blame 3", sel(call(coerced(f, onFun(id, onField("a", noInt(3))), onFun(id, onField("a", noInt(5)))), rec("a", num(1))), "a"), same),
		tells("blame 3", sel(call(coerced(f, onFun(onField("a", noInt(3)), onField("a", noInt(5)))), rec("a", num(1))), "a"), same),
	)
	holdRuns(t,
		runs{"fn f(n) = n; fn main(x) = let g: int -> any = @1f; let h: any -> int = @2g; h(\"s\");", "blame other 2"},
		runs{"fn f(n) = n; fn main(x) = let g: any -> int = @1f; let h: any -> str = ((g @2as any) @3as any -> str); h(\"s\");", "blame own 1"},
		runs{"fn f(n) = n; fn main(x) = let g: any -> int = @1f; let h: any -> str = ((g @2as any) @3as any -> str); h(4);", "blame own 3"},
	)
}

// P14.1: a value that is coerced anew bears more, and the one that it was stays as it was, also where it is captured.
func TestCoercedAnew(t *testing.T) {
	holdCores(t,
		tells("done 1", let(rec("a", num(1)), let(coerced(variable(1), onField("a", noInt(3))), sel(variable(1), "a")))),
		tells("done 1", let(coerced(rec("a", num(1)), onField("a", noStr(3))), let(coerced(variable(1), onField("a", noInt(5))), sel(variable(1), "a")))),
		tells("blame 5", let(coerced(rec("a", num(1)), onField("a", noStr(3))), let(coerced(variable(1), onField("a", noInt(5))), sel(variable(2), "a")))),
		tells("done 1", let(global(1), let(coerced(variable(1), onFun(blamed(3), blamed(5))), call(variable(1), num(2)))), num(1)),
		tells("done 1", let(makes(1, 0), let(coerced(variable(1), onFun(blamed(3), blamed(5))), call(variable(1), num(2)))), num(1)),
		tells("done 1", let(rec("a", num(1)), let(makes(1, 1), let(coerced(variable(1), onField("a", noInt(3))), call(variable(2), num(2))))), sel(variable(0), "a")),
		tells("blame 3", let(coerced(rec("a", num(1)), onField("a", noInt(3))), call(makes(1, 1), num(2))), sel(variable(0), "a")),
	)
}

// P14.1: coercions that differ in one thing alone are not taken for one another, whichever came first.
func TestCoercionsApart(t *testing.T) {
	need := func(name string, label int) api.Co { return needing(0, api.Need{Name: name, Label: label}) }
	id := coerce.Id()
	r := rec("a b r", num(1), num(2), rec("a", num(3)))
	a := func(v api.Core) api.Core { return sel(v, "a") }
	inner := func(v api.Core) api.Core { return sel(sel(v, "r"), "a") }
	called := func(v api.Core) api.Core { return call(v, num(1)) }
	all := []struct {
		v      api.Core
		co     api.Co
		use    func(api.Core) api.Core
		result string
	}{
		{r, onField("a", noInt(3)), a, "blame 3"},
		{r, onField("a", noInt(5)), a, "blame 5"},
		{r, onField("a", noInt(-5)), a, "blame -5"},
		{r, onField("a", noStr(3)), a, "done 1"},
		{r, onField("b", noInt(3)), a, "done 1"},
		{r, onField("r", noInt(3)), inner, "done 3"},
		{r, onField("r", need("x", 3)), inner, "blame 3"},
		{r, onField("r", need("x", 5)), inner, "blame 5"},
		{r, onField("r", need("a", 3)), inner, "done 3"},
		{r, onField("r", onField("a", noInt(3))), inner, "blame 3"},
		{r, onField("r", onField("b", noInt(3))), inner, "done 3"},
		{r, onField("r", onFun(noInt(3), id)), inner, "done 3"},
		{global(1), onFun(noInt(3), id), called, "blame 3"},
		{global(1), onFun(id, noInt(3)), called, "blame 3"},
		{global(1), onFun(noStr(3), noInt(5)), called, "blame 5"},
		{global(1), onFun(id, onField("a", noInt(3))), called, "done 7"},
		{global(1), onFun(onField("a", noInt(3)), id), called, "done 7"},
	}
	for _, x := range all {
		for _, y := range all {
			if x.v.Kind == y.v.Kind {
				holdCores(t, tells(y.result, let(coerced(x.v, x.co, x.co), y.use(coerced(y.v, y.co, y.co))), num(7)))
			}
		}
	}
	// One that is applied in one place to what has borne that, nothing, or others.
	again := func(e api.Core) api.Core { return call(global(1), e) }
	plain := rec("a", num(1))
	holdCores(t,
		tells("blame 7", let(again(again(plain)), a(again(plain))), coerced(variable(0), onField("a", noInt(7)))),
		tells("blame 3", let(again(again(plain)), a(again(coerced(plain, onField("a", noInt(3)))))), coerced(variable(0), onField("a", noInt(7)))),
		tells("blame 7", let(again(coerced(plain, onField("a", noInt(3)))), a(again(coerced(plain, onField("a", noStr(3)))))), coerced(variable(0), onField("a", noInt(7)))),
		tells("done 1", let(again(again(plain)), a(again(coerced(plain, onField("a", noStr(3)))))), coerced(variable(0), onField("a", noStr(7)))),
	)
}

// P1, P14.2: values that are coerced without end: what they bear does not grow with that.
func TestCoercedWithoutEnd(t *testing.T) {
	// Handed to itself time and again, a function that bore all of them would bear more than can be counted.
	grows := "fn id(x) = x; fn loop(r) = if r.n < 1 then r.g else loop({n: r.n - 1, g: r.g(r.g)}); fn main(x) = loop({n: 500, g: id as %s});"
	high := "any"
	for range 14 {
		high = "any -> (" + high + ")"
	}
	holdTold(t, 2*plenty, "done fn", fmt.Sprintf(grows, high))
	// Back and forth, between a type and any: the first cast comes first in what is answered.
	loop := "fn id(x) = x; fn loop(r: {n: int, f: int -> int}): int = if r.n < 1 then r.f(1) else loop(id({f: id(r.f), n: r.n - 1})); "
	holdTold(t, 1<<30, "done 1", loop+"fn main(x) = loop({f: id, n: 20000});")
	holdTold(t, 1<<30, "blame own 1", loop+"fn main(x) = loop(@1{f: fn (n): any => \"s\", n: 20000});")
	// Two types in turn: the last cast that can be blamed comes first in what is taken.
	holdTold(t, 1<<30, "blame other 1", "fn main(x) = p({n: 20001, f: fn (n) => n}); "+
		"fn p(r: {n: int, f: int -> any}): any = if r.n < 1 then r.f(1) else q({n: r.n - 1, f: r.f as any}); "+
		"fn q(r: {n: int, f: str -> any}): any = p({n: r.n - 1, f: r.f @1as any});")
}
