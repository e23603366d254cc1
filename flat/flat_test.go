package flat

import (
	"math"
	"strings"
	"testing"

	"gradus/api"
)

// P14.1, P14.2: the chapter's examples, which are run's.
func TestExamples(t *testing.T) {
	holdRuns(t,
		runs{"fn main(x) = let a = print(1); 7 / 2;", "print 1; done 3"},
		runs{"fn main(x) = 1 / 0;", "trap 1"},
		runs{`fn f(x) = x; fn main(x) = f@1("a") + 1;`, "blame own 1"},
	)
}

// P14.1, P14.2: the document's examples of the whole.
func TestWholeExamples(t *testing.T) {
	holdTold(t, plenty, "print 3; done null", "fn main(x) = print(1 + 2);")
	holdTold(t, plenty, "blame own 1", "fn f(x) = x;\nfn main(x) = f@1(\"a\") + 1;")
	holdTold(t, plenty, "done 45",
		"import lib: twice;\nfn main(x) = twice(fn (n: int): int => n * 3)(5);",
		"lib:: export fn twice(f: int -> int): int -> int = fn (n: int): int => f(f(n));")
	holdTold(t, plenty, "done 7", "fn id[A](x: A): A = x;\nfn main(x) = id[{a: int}]({a: 7, b: 8}).a;")
	holdTold(t, plenty, `done "none"`, `fn main(x) = let v: int | null = null; if v is null then "none" else v;`)
	holdTold(t, plenty, "read 5; done {a: 5, b: 1}", "fn main(x) = {{b: 1} with a: read()};")
	sum := "fn f(n: int): int = if n < 1 then 0 else n + f(n - 1);\nfn main(x) = f(4);"
	holdTold(t, 3, "fuel", sum)
	holdTold(t, 9, "done 10", sum)
	holdTold(t, plenty, "trap 1", "fn main(x) = 1 / 0;")
	holdTold(t, plenty, "blame other 1", "fn f(g: any -> int): int = g(1);\nfn main(x) = f((fn (s: str): int => 2) @1as any);")
}

// P14.1: what has no Kids.
func TestConstants(t *testing.T) {
	holdCores(t,
		tells("done 0", num(0)),
		tells("done -17", num(-17)),
		tells("done -9223372036854775808", num(math.MinInt64)),
		tells("done 9223372036854775807", num(math.MaxInt64)),
		tells(`done ""`, str("")),
		tells(`done "a\n\"b\\\t"`, str("a\n\"b\\\t")),
		tells("done false", boolean(0)),
		tells("done true", boolean(1)),
		tells("done null", nothing()),
		tells("done fn", global(0)),
		tells("done fn", makes(1), num(1)),
		tells("read 5; done 5", core(api.CRead)),
		tells("done {}", rec("")),
		// What the main function takes.
		tells("done null", variable(0)),
	)
}

// P14.1: which function is the main one. Its body alone is run, made with nothing, with null as what it takes.
func TestMain(t *testing.T) {
	l := byHand(num(10), call(global(2), num(1)), rec("a b", variable(0), global(0)), print(variable(0)))
	for main, want := range []string{"done 10", "done {a: 1, b: fn}", "done {a: null, b: fn}", "print null; done null"} {
		if got := told(Run(l, main, nil, plenty)); got != want {
			t.Errorf("main %d: %s, not %s", main, got, want)
		}
	}
	for _, main := range []int{4, 5, -1, -4, math.MinInt, math.MaxInt} {
		if got := told(Run(l, main, nil, plenty)); got != "stuck" {
			t.Errorf("main %d: %s", main, got)
		}
	}
	// Names play no part, neither those that all have nor those that none has.
	for i := range l {
		l[i].Name = ""
	}
	if got := told(Run(l, 1, nil, plenty)); got != "done {a: 1, b: fn}" {
		t.Error(got)
	}
}

// eachValue is a value of each tag, and behind these a record and a function that are coerced.
func eachValue() []api.Core {
	r, f := rec("a", num(1)), global(1)
	return []api.Core{nothing(), boolean(1), num(8), str("s"), r, f, coerced(r, onField("a", noStr(3))), coerced(f, onFun(noStr(3), noStr(5)))}
}

// P14.1: each kind of core that has one Kid, or two of which one is a plain one, with each value that it may meet.
func TestEachKind(t *testing.T) {
	field := with(variable(1), "z", variable(1))
	for _, c := range []struct {
		what  string
		made  func(api.Core) api.Core
		wants string // of each value, with a bar between two
	}{
		{"variable", func(v api.Core) api.Core { return let(v, variable(1)) }, `null|true|8|"s"|{a: 1}|fn|{a: 1}|fn`},
		{"captured", func(v api.Core) api.Core { return let(v, call(makes(2, 1), num(0))) }, `null|true|8|"s"|{a: 1}|fn|{a: 1}|fn`},
		{"taken", func(v api.Core) api.Core { return call(global(2), v) }, `null|true|8|"s"|{a: 1}|fn|{a: 1}|fn`},
		{"field", func(v api.Core) api.Core { return sel(rec("z a", v, num(0)), "z") }, `null|true|8|"s"|{a: 1}|fn|{a: 1}|fn`},
		{"record", func(v api.Core) api.Core { return rec("z", v) }, `{z: null}|{z: true}|{z: 8}|{z: "s"}|{z: {..}}|{z: fn}|{z: {..}}|{z: fn}`},
		{"new field", func(v api.Core) api.Core { return with(rec("b", num(1)), "a", v) }, `{a: null, b: 1}|{a: true, b: 1}|{a: 8, b: 1}|{a: "s", b: 1}|{a: {..}, b: 1}|{a: fn, b: 1}|{a: {..}, b: 1}|{a: fn, b: 1}`},
		{"called", func(v api.Core) api.Core { return call(v, num(9)) }, "stuck|stuck|stuck|stuck|stuck|9|stuck|9"},
		{"selected", func(v api.Core) api.Core { return sel(v, "a") }, "stuck|stuck|stuck|stuck|1|stuck|1|stuck"},
		{"with", func(v api.Core) api.Core { return let(v, field) }, "stuck|stuck|stuck|stuck|{a: 1, z: {..}}|stuck|{a: 1, z: {..}}|stuck"},
		{"if", func(v api.Core) api.Core { return core(api.CIf, v, num(1), num(2)) }, "stuck|1|stuck|stuck|stuck|stuck|stuck|stuck"},
		{"then", func(v api.Core) api.Core { return core(api.CIf, boolean(1), v, num(2)) }, `null|true|8|"s"|{a: 1}|fn|{a: 1}|fn`},
		{"else", func(v api.Core) api.Core { return core(api.CIf, boolean(0), num(1), v) }, `null|true|8|"s"|{a: 1}|fn|{a: 1}|fn`},
		{"add", func(v api.Core) api.Core { return numbered(api.COp, api.OpAdd, v, num(1)) }, "stuck|stuck|9|stuck|stuck|stuck|stuck|stuck"},
		{"add to", func(v api.Core) api.Core { return numbered(api.COp, api.OpAdd, num(1), v) }, "stuck|stuck|9|stuck|stuck|stuck|stuck|stuck"},
		{"equal", func(v api.Core) api.Core { return core(api.CEq, v, v) }, "true|true|true|true|trap 3|trap 3|trap 3|trap 3"},
		{"joined", func(v api.Core) api.Core { return core(api.CCat, v, str("t")) }, `stuck|stuck|stuck|"st"|stuck|stuck|stuck|stuck`},
		{"joined to", func(v api.Core) api.Core { return core(api.CCat, str("t"), v) }, `stuck|stuck|stuck|"ts"|stuck|stuck|stuck|stuck`},
		{"not", func(v api.Core) api.Core { return core(api.CNot, v) }, "stuck|false|stuck|stuck|stuck|stuck|stuck|stuck"},
		{"neg", func(v api.Core) api.Core { return core(api.CNeg, v) }, "stuck|stuck|-8|stuck|stuck|stuck|stuck|stuck"},
		{"let", func(v api.Core) api.Core { return let(v, num(7)) }, "7|7|7|7|7|7|7|7"},
		{"let it be", func(v api.Core) api.Core { return let(num(7), v) }, `null|true|8|"s"|{a: 1}|fn|{a: 1}|fn`},
		{"coerced", func(v api.Core) api.Core { return coerced(v, noInt(4)) }, `null|true|blame 4|"s"|{a: 1}|fn|{a: 1}|fn`},
		{"cast", func(v api.Core) api.Core { return cast(3, "any", "{a: int} | null", v) }, `null|blame 8|blame 8|blame 8|{a: 1}|blame 8|{a: 1}|blame 8`},
	} {
		wants := strings.Split(c.wants, "|")
		for i, v := range eachValue() {
			want := wants[i]
			if !strings.HasPrefix(want, "stuck") && !strings.HasPrefix(want, "trap") && !strings.HasPrefix(want, "blame") {
				want = "done " + want
			}
			if got := told(Run(byHand(c.made(v), variable(0), variable(0)), 0, nil, plenty)); got != want {
				t.Errorf("%s, value %d: %s, not %s", c.what, i, got, want)
			}
		}
	}
	// CIs, with each tag.
	for tag := range api.Tags {
		for i, v := range eachValue() {
			want := "done false"
			if i == tag || i == tag+2 && tag >= api.TagRec {
				want = "done true"
			}
			holdCores(t, tells(want, numbered(api.CIs, tag, v), variable(0)))
		}
	}
	// CPrint, as it is told at the end.
	for _, v := range eachValue() {
		end := told(Run(byHand(v, variable(0)), 0, nil, 0))
		holdCores(t, tells("print "+strings.TrimPrefix(end, "done ")+"; done null", print(v), variable(0)))
	}
}

// P14.1: Kids are run in their order, all of them ahead of what is done with them; behind what ends the run there is
// nothing.
func TestOrder(t *testing.T) {
	zero := numbered(api.COp, api.OpDiv, num(1), num(0))
	two := func(made api.Core, a, b api.Core, want string) {
		t.Helper()
		of := func(a, b api.Core) api.Core {
			made.Kids = []api.Core{a, b}
			return made
		}
		behind := say(3, num(1))
		holdCores(t,
			tells("print 1; print 2; "+want, of(say(1, a), say(2, b)), behind),
			tells("print 1; trap 1", of(say(1, zero), say(2, b)), behind),
			tells("print 1; print 2; trap 1", of(say(1, a), say(2, zero)), behind),
			tells("print 9; print 1; print 2; "+want, say(9, of(say(1, a), say(2, b))), behind),
			tells("print 1; print 2; blame 2", of(say(1, a), cast(0, "any", "bool", say(2, num(0)))), behind),
		)
	}
	two(numbered(api.COp, api.OpSub), num(7), num(2), "done 5")
	two(numbered(api.COp, api.OpDiv), num(7), num(0), "trap 1")
	two(core(api.CEq), num(7), num(7), "done true")
	two(core(api.CEq), rec(""), rec(""), "trap 3")
	two(core(api.CCat), str("a"), str("b"), `done "ab"`)
	two(core(api.CCat), str(strings.Repeat("x", 4096)), str("b"), "trap 4")
	two(core(api.CCall), global(1), num(2), "print 3; done 1")
	two(core(api.CCall), makes(1), num(2), "print 3; done 1")
	two(named(api.CWith, "a"), rec("b", num(1)), num(2), "done {a: 2, b: 1}")
	two(rec("b a"), num(1), num(2), "done {a: 2, b: 1}")
	two(core(api.CLet), num(1), num(2), "done 2")
	for _, c := range []struct {
		made api.Core
		kid  api.Core
		want string
	}{
		{core(api.CNot), boolean(1), "done false"},
		{core(api.CNeg), num(4), "done -4"},
		{core(api.CPrint), num(4), "print 4; done null"},
		{numbered(api.CIs, api.TagInt), num(4), "done true"},
		{named(api.CSel, "a"), rec("a", num(4)), "done 4"},
		{cast(0, "int", "any", num(4)), num(4), "done 4"},
		{cast(0, "any", "str", num(4)), num(4), "blame 2"},
		{coerced(num(4), noInt(7)), num(4), "blame 7"},
	} {
		c.made.Kids = []api.Core{say(1, c.kid)}
		holdCores(t, tells("print 1; "+c.want, c.made))
		c.made.Kids = []api.Core{say(1, zero)}
		holdCores(t, tells("print 1; trap 1", c.made))
	}
	read := core(api.CRead)
	holdCores(t,
		tells("print 1; print 2; print 3; done {a: 2, b: 3, c: 1}", rec("c a b", say(1, num(1)), say(2, num(2)), say(3, num(3)))),
		tells("print 1; print 2; trap 1", rec("c a b", say(1, num(1)), say(2, zero), say(3, num(3)))),
		tells("read 5; read -6; read 7; done {a: -6, b: 7, c: 5}", rec("c a b", read, read, read)),
		tells("read 5; read -6; done 11", sub(read, read)),
		tells("read 5; read -6; done {a: -6, b: 5}", with(rec("b", read), "a", read)),
		tells("read 5; read -6; read 7; done -8", sub(read, call(global(1), read)), sub(variable(0), core(api.CNeg, sub(core(api.CRead), num(-12))))),
		tells("print 1; print 2; done 2", core(api.CIf, say(1, boolean(1)), say(2, num(2)), say(3, num(3)))),
		tells("print 1; print 3; done 3", core(api.CIf, say(1, boolean(0)), say(2, num(2)), say(3, num(3)))),
		tells("print 1; trap 1", core(api.CIf, say(1, zero), say(2, num(2)), say(3, num(3)))),
		tells("print 2; trap 1", core(api.CIf, boolean(1), say(2, zero), say(3, num(3)))),
		tells("print 3; done 3", core(api.CIf, boolean(0), zero, say(3, num(3)))),
	)
}

// P14.1: CIf and what is made of it, by texts; what is not taken is not run.
func TestChoices(t *testing.T) {
	holdRuns(t,
		runs{"fn main(x) = if true then 1 else 1 / 0;", "done 1"},
		runs{"fn main(x) = if false then 1 / 0 else 2;", "done 2"},
		runs{"fn main(x) = if 1 < 2 then if 2 < 1 then 1 else 2 else 3;", "done 2"},
		runs{"fn main(x) = true or 1 / 0 == 1;", "done true"},
		runs{"fn main(x) = false or print(1) == null;", "print 1; done true"},
		runs{"fn main(x) = false and 1 / 0 == 1;", "done false"},
		runs{"fn main(x) = true and print(1) == 1;", "print 1; done false"},
		runs{"fn main(x) = if @1x then 1 else 2;", "blame own 1"},
	)
}

// P14.1: what CLet brings stands behind all that is in scope, as far as its second Kid goes.
func TestLet(t *testing.T) {
	holdCores(t,
		tells("done 1", let(num(1), variable(1))),
		tells("done null", let(num(1), variable(0))),
		tells("done {a: null, b: 1, c: 2}", let(num(1), let(num(2), rec("a b c", variable(0), variable(1), variable(2))))),
		// Behind it there is one less in scope, and another one comes to have its number.
		tells("done {a: 2, b: 3}", rec("a b", let(num(1), let(num(2), variable(2))), let(num(3), variable(1)))),
		tells("done {a: 1, b: 2, c: 3}", rec("a b c", let(num(1), variable(1)), let(num(2), variable(1)), let(num(3), variable(1)))),
		tells("done 1", let(let(num(1), variable(1)), variable(1))),
		tells("done 2", let(let(num(1), sub(variable(1), num(-1))), variable(1))),
		tells("done {a: 1, b: 2, c: 3}", let(num(1), let(let(num(5), num(2)), let(let(num(6), let(num(7), num(3))), rec("a b c", variable(1), variable(2), variable(3)))))),
		// Where a Kid that comes ahead brings many, those of the other ones stay.
		tells("done {a: 5, b: {..}}", let(num(4), rec("a b",
			let(num(1), let(num(2), let(num(3), let(num(5), variable(5))))),
			let(num(8), rec("c d", variable(1), variable(2))))), variable(0)),
		tells("stuck", rec("a b", let(num(1), num(2)), variable(1))),
	)
	holdRuns(t,
		runs{"fn main(x) = let a = 1; let a = a + 1; a * 10;", "done 20"},
		runs{"fn main(x) = let a = 1; let b = (let a = 5; a); a + b;", "done 6"},
		runs{"fn main(x) = let a = read(); let b = read(); a - b;", "read 5; read -6; done 11"},
	)
}
