package run

import (
	"strings"
	"testing"

	"gradus/api"
)

// P11.1, P11.2: the chapter's examples.
func TestExamples(t *testing.T) {
	holdRuns(t,
		runs{"fn main(x) = let a = print(1); 7 / 2;", "print 1; done 3"},
		runs{"fn main(x) = 1 / 0;", "trap 1"},
		runs{`fn f(x) = x; fn main(x) = f@1("a") + 1;`, "blame own 1"},
	)
}

// P11.1, P11.2: the document's examples of the whole.
func TestWholeExamples(t *testing.T) {
	holdTold(t, plenty, "print 3; done null", "fn main(x) = print(1 + 2);")
	holdTold(t, plenty, "blame own 1", "fn f(x) = x;\nfn main(x) = f@1(\"a\") + 1;")
	holdTold(t, plenty, "done 45",
		"import lib: twice;\nfn main(x) = twice(fn (n: int): int => n * 3)(5);",
		"lib:: export fn twice(f: int -> int): int -> int = fn (n: int): int => f(f(n));")
	holdTold(t, plenty, "done 7", "fn id[A](x: A): A = x;\nfn main(x) = id[{a: int}]({a: 7, b: 8}).a;")
	holdTold(t, plenty, `done "none"`, `fn main(x) = let v: int | null = null; if v is null then "none" else v;`)
	holdTold(t, plenty, "read 5; done {a: 5, b: 1}", "fn main(x) = {{b: 1} with a: read()};")
	sum := "fn f(n: int): int = if n < 1 then 0 else n + f(n - 1);\nfn main(x) = f(4);"
	holdTold(t, 3, "fuel", sum)
	holdTold(t, 9, "done 10", sum)
	holdTold(t, plenty, "trap 1", "fn main(x) = 1 / 0;")
	holdTold(t, plenty, "blame other 1", "fn f(g: any -> int): int = g(1);\nfn main(x) = f((fn (s: str): int => 2) @1as any);")
}

// P11.1: what has no Kids.
func TestConstants(t *testing.T) {
	holdCores(t,
		cores{num(0), "done 0"},
		cores{num(-17), "done -17"},
		cores{num(-1 << 63), "done -9223372036854775808"},
		cores{num(1<<63 - 1), "done 9223372036854775807"},
		cores{str(""), `done ""`},
		cores{str("a\n\"b\\\t"), `done "a\n\"b\\\t"`},
		cores{boolean(0), "done false"},
		cores{boolean(1), "done true"},
		cores{nothing(), "done null"},
		cores{fn(num(1)), "done fn"},
		cores{global(0), "done fn"},
		cores{core(api.CRead), "read 5; done 5"},
		cores{rec(""), "done {}"},
		// What the main function takes.
		cores{variable(0), "done null"},
	)
}

// P11.1: which function is which, and which is the main one. Its body alone is run.
func TestMain(t *testing.T) {
	p := byHand(num(10), call(global(2), num(1)), rec("a b", variable(0), global(0)), core(api.CPrint, variable(0)))
	for main, want := range []string{"done 10", "done {a: 1, b: fn}", "done {a: null, b: fn}", "print null; done null"} {
		p.Main = main
		if got := told(Run(p, nil, plenty)); got != want {
			t.Errorf("main %d: %s, not %s", main, got, want)
		}
	}
	for main, want := range []string{"done {a: 7, b: fn}", "done 10", "print 7; done null"} {
		p.Main = 4
		p.Funs = append(p.Funs[:4:4], api.Fun{Body: call(global([]int{2, 0, 3}[main]), num(7))})
		if got := told(Run(p, nil, plenty)); got != want {
			t.Errorf("%d: %s, not %s", main, got, want)
		}
	}
}

// P11.1: Kids are run in their order, all of them ahead of what is done with them; behind what ends the run there is nothing.
func TestOrder(t *testing.T) {
	zero := numbered(api.COp, api.OpDiv, num(1), num(0))
	two := func(kind, n int, text string, a, b api.Core, want string) {
		t.Helper()
		made := func(a, b api.Core) api.Core { return api.Core{Kind: kind, N: n, Text: text, Kids: []api.Core{a, b}} }
		holdCores(t,
			cores{made(say(1, a), say(2, b)), "print 1; print 2; " + want},
			cores{made(say(1, zero), say(2, b)), "print 1; trap 1"},
			cores{made(say(1, a), say(2, zero)), "print 1; print 2; trap 1"},
			cores{say(9, made(say(1, a), say(2, b))), "print 9; print 1; print 2; " + want},
			cores{made(say(1, a), cast(0, "any", "bool", say(2, num(0)))), "print 1; print 2; blame 2"},
		)
	}
	two(api.COp, api.OpSub, "", num(7), num(2), "done 5")
	two(api.COp, api.OpDiv, "", num(7), num(0), "trap 1")
	two(api.COp, api.OpMod, "", num(7), num(0), "trap 1")
	two(api.CEq, 0, "", num(7), num(7), "done true")
	two(api.CEq, 0, "", rec(""), rec(""), "trap 3")
	two(api.CCat, 0, "", str("a"), str("b"), `done "ab"`)
	two(api.CCat, 0, "", str(strings.Repeat("x", 4096)), str("b"), "trap 4")
	two(api.CCall, 0, "", fn(say(3, num(1))), num(2), "print 3; done 1")
	two(api.CWith, 0, "a", rec("b", num(1)), num(2), "done {a: 2, b: 1}")
	two(api.CLet, 0, "", num(1), num(2), "done 2")
	for kind, want := range map[int]string{api.CNot: "done false", api.CPrint: "print true; done null", api.CIs: "done true"} {
		holdCores(t,
			cores{numbered(kind, api.TagBool, say(1, boolean(1))), "print 1; " + want},
			cores{numbered(kind, api.TagBool, say(1, zero)), "print 1; trap 1"},
		)
	}
	holdCores(t,
		cores{core(api.CNeg, say(1, num(4))), "print 1; done -4"},
		cores{core(api.CNeg, say(1, zero)), "print 1; trap 1"},
		cores{sel(say(1, rec("a", num(4))), "a"), "print 1; done 4"},
		cores{sel(say(1, zero), "a"), "print 1; trap 1"},
		cores{cast(0, "int", "any", say(1, num(4))), "print 1; done 4"},
		cores{cast(0, "int", "any", say(1, zero)), "print 1; trap 1"},
		cores{rec("c a b", say(1, num(1)), say(2, num(2)), say(3, num(3))), "print 1; print 2; print 3; done {a: 2, b: 3, c: 1}"},
		cores{rec("c a b", say(1, num(1)), say(2, zero), say(3, num(3))), "print 1; print 2; trap 1"},
		cores{rec("b a", core(api.CRead), core(api.CRead)), "read 5; read -6; done {a: -6, b: 5}"},
		cores{core(api.CIf, say(1, boolean(1)), say(2, num(2)), say(3, num(3))), "print 1; print 2; done 2"},
		cores{core(api.CIf, say(1, boolean(0)), say(2, num(2)), say(3, num(3))), "print 1; print 3; done 3"},
		cores{core(api.CIf, say(1, zero), say(2, num(2)), say(3, num(3))), "print 1; trap 1"},
		cores{core(api.CIf, boolean(1), say(2, zero), say(3, num(3))), "print 2; trap 1"},
		cores{core(api.CIf, boolean(0), zero, say(3, num(3))), "print 3; done 3"},
	)
}

// P11.1: CIf and CIs, by texts; what is not taken is not run.
func TestChoices(t *testing.T) {
	holdRuns(t,
		runs{"fn main(x) = if true then 1 else 1 / 0;", "done 1"},
		runs{"fn main(x) = if false then 1 / 0 else 2;", "done 2"},
		runs{"fn main(x) = if 1 < 2 then if 2 < 1 then 1 else 2 else 3;", "done 2"},
		runs{"fn main(x) = true or 1 / 0 == 1;", "done true"},
		runs{"fn main(x) = false or print(1) == null;", "print 1; done true"},
		runs{"fn main(x) = false and 1 / 0 == 1;", "done false"},
		runs{"fn main(x) = true and print(1) == 1;", "print 1; done false"},
		runs{"fn main(x) = if @1x then 1 else 2;", "blame own 1"},
	)
	values := []api.Core{nothing(), boolean(0), num(0), str(""), rec(""), fn(num(0))}
	for tag := range api.Tags {
		for i, v := range values {
			want := "done false"
			if i == tag {
				want = "done true"
			}
			holdCores(t,
				cores{numbered(api.CIs, tag, v), want},
				cores{numbered(api.CIs, tag, cast(0, "any", "{} | int | str | null | bool | (any -> int)", v)), want},
			)
		}
	}
}

// P11.1: CLet.
func TestLet(t *testing.T) {
	holdCores(t,
		cores{let(num(1), variable(1)), "done 1"},
		cores{let(num(1), variable(0)), "done null"},
		cores{let(num(1), let(num(2), rec("a b c", variable(0), variable(1), variable(2)))), "done {a: null, b: 1, c: 2}"},
		// Behind it there is one less in scope.
		cores{rec("a b", let(num(1), let(num(2), variable(2))), let(num(3), variable(1))), "done {a: 2, b: 3}"},
		cores{let(let(num(1), variable(1)), variable(1)), "done 1"},
		cores{let(let(num(1), numbered(api.COp, api.OpAdd, variable(1), num(1))), variable(1)), "done 2"},
	)
	holdRuns(t,
		runs{"fn main(x) = let a = 1; let a = a + 1; a * 10;", "done 20"},
		runs{"fn main(x) = let a = 1; let b = (let a = 5; a); a + b;", "done 6"},
		runs{"fn main(x) = let a = read(); let b = read(); a - b;", "read 5; read -6; done 11"},
	)
}
