package flat

import (
	"fmt"
	"math"
	"strings"
	"testing"

	"gradus/api"
)

// P14.1: what a function was made with are its first variables, in the order of Ints; then stands what it takes, then
// what its CLet bring.
func TestCaptures(t *testing.T) {
	all := func(n int) api.Core {
		var vars []api.Core
		for i := range n {
			vars = append(vars, variable(i))
		}
		return rec(strings.Join(strings.Split("abcdefgh"[:n], ""), " "), vars...)
	}
	// Variables 0 to 3 are null, 10, 20, 30.
	in := func(e api.Core) api.Core { return let(num(10), let(num(20), let(num(30), e))) }
	holdCores(t,
		// Nothing, one, several, all.
		tells("done {a: 5}", in(call(makes(1), num(5))), all(1)),
		tells("done {a: 20, b: 5}", in(call(makes(1, 2), num(5))), all(2)),
		tells("done {a: null, b: 5}", in(call(makes(1, 0), num(5))), all(2)),
		tells("done {a: 10, b: 30, c: 5}", in(call(makes(1, 1, 3), num(5))), all(3)),
		tells("done {a: null, b: 10, c: 20, d: 30, e: 5}", in(call(makes(1, 0, 1, 2, 3), num(5))), all(5)),
		// In the order of Ints, whatever that is.
		tells("done {a: 30, b: 10, c: 5}", in(call(makes(1, 3, 1), num(5))), all(3)),
		tells("done {a: 30, b: null, c: 30, d: 10, e: 5}", in(call(makes(1, 3, 0, 3, 1), num(5))), all(5)),
		// What its CLet bring stands behind what it takes.
		tells("done {a: 20, b: 5, c: 7, d: 8}", in(call(makes(1, 2), num(5))), let(num(7), let(num(8), all(4)))),
		tells("done {a: 20, b: 5, c: {..}}", in(call(makes(1, 2), num(5))), rec("a b c", variable(0), variable(1), let(num(7), all(3)))),
		// Each call has its own.
		tells("done {a: {..}, b: 7}", let(makes(1, 0), rec("a b", call(variable(1), num(6)), sel(call(variable(1), num(7)), "b"))), let(num(9), all(3))),
		// It is made as things are where it is made: what comes in scope behind that is not seen.
		tells("done {a: 10, b: 5}", let(num(10), let(makes(1, 1), let(num(99), call(variable(2), num(5))))), all(2)),
		tells("done {a: 10, b: 5}", let(let(num(10), makes(1, 1)), let(num(99), call(variable(1), num(5)))), all(2)),
		// What it was made with may be a function, itself made with something.
		tells("done {a: 10, b: 4}", let(num(10), let(makes(1, 1), call(makes(2, 2), num(5)))), all(2), call(variable(0), num(4))),
		// A function that captures nothing sees what it takes alone; the one that it is called in is not around it.
		tells("stuck", in(call(makes(1), num(5))), variable(1)),
		tells("stuck", in(call(global(1), num(5))), variable(1)),
	)
	// Through several functions: what an outer one captured is handed on, beside what each takes and brings.
	holdCores(t, tells("done {a: 10, b: 40, c: 1, d: 2, e: 3}",
		in(call(call(call(makes(1, 1, 3), num(1)), num(2)), num(3))),
		let(sub(variable(1), num(-10)), makes(2, 0, 3, 2)),
		makes(3, 0, 1, 2, 3),
		all(5)))
}

// P14.1: the same function made twice, with other values.
func TestMadeTwice(t *testing.T) {
	pair := rec("a b", variable(0), variable(1))
	holdCores(t,
		tells("done {p: 1, q: 2, r: 1}",
			let(call(global(1), num(1)), let(call(global(1), num(2)), rec("p q r",
				call(variable(1), nothing()), call(variable(2), nothing()), call(variable(1), nothing())))),
			makes(2, 0), variable(0)),
		tells("print {a: 1, b: 3}; print {a: 2, b: 4}; done {a: 1, b: 5}",
			let(num(1), let(makes(1, 1), let(num(2), let(makes(1, 3), let(print(call(variable(2), num(3))), let(print(call(variable(4), num(4))), call(variable(2), num(5)))))))),
			pair),
	)
	holdRuns(t,
		runs{"fn add(a: int): int -> int = fn (b: int): int => a + b; fn main(x) = let f = add(1); let g = add(10); {a: f(5), b: g(5), c: f(6)};", "done {a: 6, b: 15, c: 7}"},
		runs{"fn main(x) = let f = fn (a) => let b = {a: a}; fn (c) => {b with c: c}; let g = f(1); let h = f(2); let p = print(g(3)); h(4);", "print {a: 1, c: 3}; done {a: 2, c: 4}"},
		runs{"fn f(n: int): any = if n < 1 then fn (y) => 0 else (let g = f(n - 1); fn (y: int): any => {n: n, y: y, g: g}); fn main(x) = let h = f(3); let a = print(h(7)); h(8).g(9);", "print {g: fn, n: 3, y: 7}; done {g: fn, n: 2, y: 9}"},
	)
}

// P14.1: calls of one function within one another have each its own variables, however many it was made with.
func TestCallsWithin(t *testing.T) {
	for n := range 10 {
		main := call(variable(n+1), variable(n+1))
		takes := variable(n)
		var ints []int
		for i := range n {
			ints = append(ints, i)
		}
		main = let(makes(1, ints...), main)
		for i := range n {
			main = let(num(i), main)
		}
		// It calls the function that it takes, and looks at what it takes behind that; so with what its CLet brings.
		body := core(api.CIf, numbered(api.CIs, api.TagFun, takes), let(num(8), rec("p q r", call(takes, num(5)), takes, variable(n+1))), let(num(6), takes))
		holdCores(t, tells("done {p: 5, q: fn, r: 8}", main, body))
	}
}

// P14.2: captures in programs.
func TestScope(t *testing.T) {
	holdRuns(t,
		runs{"fn main(x) = let n = 1; let f = fn (y: int): int => n + y; let n = 100; f(5);", "done 6"},
		runs{"fn main(x) = let n = 1; let f = fn (n: int): int => n * 2; f(5) + n;", "done 11"},
		runs{"fn g(f: int -> int): int = let n = 50; f(n); fn main(x) = let n = 3; g(fn (k: int): int => k - n);", "done 47"},
		runs{"fn main(x) = (fn (a) => fn (b) => fn (c) => {c: c, b: b, a: a})(1)(2)(3);", "done {a: 1, b: 2, c: 3}"},
		runs{"fn main(x) = let a = 1; let b = 2; (fn (c) => let d = 4; fn (e) => let f = 6; {a: a, b: b, c: c, d: d, e: e, f: f})(3)(5);", "done {a: 1, b: 2, c: 3, d: 4, e: 5, f: 6}"},
		runs{"fn main(x) = let a = 1; let b = 2; let c = 3; (fn (y) => (fn (z) => b)(y))(c);", "done 2"},
		runs{"fn main(x) = let r = {a: read(), b: read()}; let f = fn (y) => fn (z) => {r with c: {y: y, z: z}}; let s = f(1)(2); s.c;", "read 5; read -6; done {y: 1, z: 2}"},
		runs{"fn fix(f) = f(f); fn main(x) = let s = fn (self) => fn (n) => if n < 1 then 0 else n + self(self)(n - 1); fix(s)(10);", "done 55"},
		runs{"fn even(n: int): bool = if n == 0 then true else odd(n - 1); fn odd(n: int): bool = if n == 0 then false else even(n - 1); fn main(x) = {a: even(10), b: even(7)};", "done {a: true, b: false}"},
		runs{"fn f(n) = if n < 2 then n else f(n - 1) + f(n - 2); fn main(x) = f(12);", "done 144"},
	)
}

// P14.1: CGlobal, as a value and as what is called; which function it is.
func TestGlobals(t *testing.T) {
	holdCores(t,
		tells("done {a: fn, b: fn}", rec("a b", global(0), global(1)), num(1)),
		tells("done 7", call(global(1), num(7)), variable(0)),
		tells("done {a: 7, b: 8}", rec("a b", call(global(1), num(5)), call(global(2), num(5))), num(7), num(8)),
		tells("done 5", let(global(1), call(variable(1), num(5))), variable(0)),
		tells("done 5", call(call(global(1), global(2)), num(5)), variable(0), variable(0)),
		// Made with nothing, also where it is called with something in scope.
		tells("done {a: 5}", let(num(1), let(num(2), call(global(1), num(5)))), rec("a", variable(0))),
		tells("done 5", let(num(9), call(makes(1, 1), num(5))), call(global(2), variable(1)), variable(0)),
	)
	holdTold(t, plenty, "done {a: 11, b: 22, c: 33}",
		"import a: f; import b: g; fn h(n: int): int = n * 3; fn main(x) = {a: f(11), b: g(11), c: h(11)};",
		"a:: export fn f(n: int): int = h(n); fn h(n: int): int = n * 1;",
		"b:: fn h(n: int): int = n * 2; export fn g(n: int): int = h(n);")
	holdTold(t, plenty, `done {a: 1, b: "s", c: fn}`,
		"fn id[A](x: A): A = x; fn main(x) = {a: id[int](1), b: id[str](\"s\"), c: id[any -> any](main)};")
	// The main function may be called as well, and may stand anywhere.
	holdTold(t, plenty, "print null; print 1; done 2", "fn f(x) = if x is null then main(1) else 2; fn main(x) = let a = print(x); f(x); fn g(x) = fn (y) => y;")
}

// P14.1: calls with no fuel, with fuel below 0, just enough, and one too little.
func TestFuel(t *testing.T) {
	for _, fuel := range []int{0, -1, -1000, math.MinInt} {
		// The main function's body is not called, and nothing but a call takes fuel.
		holdTold(t, fuel, "print 3; read 5; done {a: fn, b: 4}", "fn f(n: int): int = n; fn main(x) = let a = print(1 + 2); let r = {a: fn (y) => a, b: read()}; let g: any = f; {r with b: if r.b < 3 then 1 / 0 else 4};")
		holdTold(t, fuel, "fuel", "fn f(n: int): int = n; fn main(x) = f(1);")
		// Both Kids of the call are run ahead of that.
		holdTold(t, fuel, "print 1; print 2; fuel", "fn f(n: null): int = 1; fn main(x) = (let a = print(1); f)(print(2));")
		holdTold(t, fuel, "trap 1", "fn f(n: int): int = n; fn main(x) = f(1 / 0);")
		holdTold(t, fuel, "blame own 1", "fn f(n: int): int = n; fn main(x) = f(@1x);")
	}
	// So many calls, and so much fuel.
	for calls, text := range []string{
		"fn main(x) = 7;",
		"fn main(x) = (fn (y) => y)(7);",
		"fn f(n: int): int = n; fn main(x) = f(f(7));",
		"fn f(n: int): int = g(n); fn g(n) = f0(n); fn f0(n) = n; fn main(x) = f(7);",
		"fn f(n: int): int = n; fn main(x) = (fn (y) => fn (z) => f(y) - f(z))(9)(2);",
		"fn f(n: int): int = if n < 1 then 7 else f(n - 1); fn main(x) = f(4);",
		"fn f(n: int): int = if n < 1 then 0 else 1 + f(n - 1) + 0; fn main(x) = f(5) + 2;",
		"fn f(g: any): any = g(7); fn h(x) = h2(x); fn h2(x) = x; fn main(x) = let a = f(h); h2(f(h)) + 0;",
	} {
		for fuel := range calls + 3 {
			want := "fuel"
			if fuel >= calls {
				want = "done 7"
			}
			holdTold(t, fuel, want, text)
		}
		holdTold(t, math.MaxInt, "done 7", text)
	}
}

// P14.1: lines that are told ahead of the end of the fuel; the call that there is no fuel for tells nothing.
func TestLinesAheadOfFuel(t *testing.T) {
	var lines []string
	for fuel := range 20 {
		holdTold(t, fuel, strings.Join(append(lines, "fuel"), "; "), "fn f(n: int): int = let a = print(n); f(n + 1); fn main(x) = f(0);")
		lines = append(lines, fmt.Sprint("print ", fuel))
	}
	holdTold(t, 2, "read 5; read -6; read 7; fuel", "fn f(n: int): int = f(read()); fn main(x) = f(read());")
	holdTold(t, 3, "read 5; read -6; read 7; trap 2", "fn f(n: int): int = f(read()); fn main(x) = f(read());")
}

// P14.1: the fuel is looked at ahead of what is called, and of what a coerced function does to what it takes.
func TestFuelAheadOfBlame(t *testing.T) {
	text := "fn f(g: any -> int): int = g(1); fn main(x) = f((fn (s: str): int => let a = print(s); 1) @1as any);"
	holdTold(t, 0, "fuel", text)
	holdTold(t, 1, "fuel", text)
	holdTold(t, 2, "blame other 1", text)
	// What it answers is looked at behind all that its body does.
	text = "fn f(g: int -> int): int = g(1); fn h(n) = let a = print(n); k(\"s\"); fn k(s) = let a = print(s); s; fn main(x) = f(@1h);"
	holdTold(t, 1, "fuel", text)
	holdTold(t, 2, "print 1; fuel", text)
	holdTold(t, 3, `print 1; print "s"; blame own 1`, text)
	for fuel, want := range []string{"print 1; fuel", "print 1; stuck"} {
		if got := told(Run(byHand(call(say(1, num(1)), num(2))), 0, nil, fuel)); got != want {
			t.Error(fuel, got)
		}
	}
}

// P1, P14.2: calls within calls, as many as there is fuel, and calls in the place of others.
func TestDeepCalls(t *testing.T) {
	const many = 1 << 18
	sum := fmt.Sprintf("fn f(n: int): int = if n < 1 then 0 else n + f(n - 1); fn main(x) = f(%d);", many-1)
	holdTold(t, math.MaxInt, "done 34359607296", sum)
	holdTold(t, many-1, "fuel", sum)
	holdTold(t, many, "fuel", "fn f(n) = {a: f(n)}; fn main(x) = f(1);")
	holdTold(t, many, "fuel", "fn f(n) = g(n) + 1; fn g(n): int = f(n); fn main(x) = f(1);")
	holdTold(t, many, "fuel", "fn main(x) = main(x);")
	holdTold(t, many, "fuel", "fn f(g) = (fn (y) => g(g)(y))(1); fn main(x) = f(f);")
	holdTold(t, many, "done 0", "fn f(r) = if r.n < 1 then 0 else f({n: r.n - 1}); fn main(x) = f({n: 200000});")
}

// P1: there is room for what waits, up to a bound; behind that the run ends by Memory.
func TestRoom(t *testing.T) {
	ends := func(room, fuel int, l []api.Flat) string {
		r := newRunner(l, nil, fuel)
		r.room = room
		return told(r.attempt(0))
	}
	within := forms(program(t, "fn main(x): int = f(0); fn f(n: int): int = let a = print(n); 1 + f(n + 1);"))[0]
	if got := ends(10, 3, within); got != "print 0; print 1; print 2; fuel" {
		t.Error(got)
	}
	// Behind the second call's line, its sum and the first one's wait, with the call and the sum that it takes.
	for fuel := 100; fuel < 1<<62; fuel *= 2 {
		if got := ends(3, fuel, within); got != "print 0; print 1; memory" {
			t.Error(fuel, got)
		}
		if got := ends(4, fuel, within); got != "print 0; print 1; print 2; memory" {
			t.Error(fuel, got)
		}
	}
	// A call in the place of another one needs none.
	last := forms(program(t, "fn main(x): int = f(10000); fn f(n: int): int = if n < 1 then 7 else f(n - 1);"))[0]
	if got := ends(2, 1<<62, last); got != "done 7" {
		t.Error(got)
	}
	// One of a coerced function waits for what that answers.
	three := core(api.CNot, core(api.CNot, core(api.CNot, boolean(0))))
	for room, want := range []string{"memory", "memory", "memory", "memory", "done true"} {
		if got := ends(room, 9, byHand(call(coerced(global(1), onFun(noStr(3), noStr(5))), num(1)), three)); got != want {
			t.Error(room, got)
		}
	}
	for room, want := range []string{"memory", "memory", "memory", "done true"} {
		if got := ends(room, 9, byHand(call(global(1), num(1)), three)); got != want {
			t.Error(room, got)
		}
	}
}
