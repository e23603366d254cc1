package run

import (
	"fmt"
	"math"
	"strings"
	"testing"

	"gradus/api"
)

// P11.1: calls with no fuel, with fuel below 0, just enough, and one too little.
func TestFuel(t *testing.T) {
	none := []int{0, -1, -1000, math.MinInt64}
	for _, fuel := range none {
		// The main function's body is not called, and nothing but a call takes fuel.
		holdTold(t, fuel, "print 3; read 5; done {a: fn, b: 4}", "fn f(n: int): int = n; fn main(x) = let a = print(1 + 2); let r = {a: f, b: read()}; let g: any = f; {r with b: if r.b < 3 then 1 / 0 else 4};")
		holdTold(t, fuel, "fuel", "fn f(n: int): int = n; fn main(x) = f(1);")
		// Both Kids of the call are run ahead of that.
		holdTold(t, fuel, "print 1; print 2; fuel", "fn f(n: null): int = 1; fn main(x) = (let a = print(1); f)(print(2));")
		holdTold(t, fuel, "trap 1", "fn f(n: int): int = n; fn main(x) = f(1 / 0);")
		holdTold(t, fuel, "blame own 1", "fn f(n: int): int = n; fn main(x) = f(@1x);")
	}
	// So many calls, and so much fuel.
	for calls, text := range []string{
		"fn main(x) = 7;",
		"fn f(n: int): int = n; fn main(x) = f(7);",
		"fn f(n: int): int = n; fn main(x) = f(f(7));",
		"fn f(n: int): int = g(n); fn g(n) = f0(n); fn f0(n) = n; fn main(x) = f(7);",
		"fn f(n: int): int = n; fn main(x) = (fn (y) => fn (z) => f(y) - f(z))(9)(2);",
		"fn f(n: int): int = if n < 1 then 7 else f(n - 1); fn main(x) = f(4);",
		"fn f(n: int): int = if n < 1 then 0 else 1 + f(n - 1) + 0; fn main(x) = f(5) + 2;",
		"fn f(g: any): any = g(7); fn h(x) = h2(x); fn h2(x) = x; fn main(x) = let a = f(h); h2(f(h)) + 0;",
	} {
		for fuel := range calls + 3 {
			want := "fuel"
			if fuel >= calls {
				want = "done 7"
			}
			holdTold(t, fuel, want, text)
		}
		holdTold(t, math.MaxInt64, "done 7", text)
	}
}

// P11.1: lines that are told ahead of the end of the fuel; the call that there is no fuel for tells nothing.
func TestLinesAheadOfFuel(t *testing.T) {
	text := "fn f(n: int): int = let a = print(n); f(n + 1); fn main(x) = f(0);"
	for fuel := range 20 {
		var lines []string
		for i := range fuel {
			lines = append(lines, fmt.Sprint("print ", i))
		}
		holdTold(t, fuel, strings.Join(append(lines, "fuel"), "; "), text)
	}
	holdTold(t, 2, "read 5; read -6; read 7; fuel", "fn f(n: int): int = f(read()); fn main(x) = f(read());")
	holdTold(t, 3, "read 5; read -6; read 7; trap 2", "fn f(n: int): int = f(read()); fn main(x) = f(read());")
}

// P11.1: the fuel is looked at ahead of what a coerced function does to what it takes.
func TestFuelAheadOfBlame(t *testing.T) {
	text := "fn f(g: any -> int): int = g(1); fn main(x) = f((fn (s: str): int => let a = print(s); 1) @1as any);"
	holdTold(t, 0, "fuel", text)
	holdTold(t, 1, "fuel", text)
	holdTold(t, 2, "blame other 1", text)
	// What it answers is looked at behind all that its body does.
	text = "fn f(g: int -> int): int = g(1); fn h(n) = let a = print(n); k(\"s\"); fn k(s) = let a = print(s); s; fn main(x) = f(@1h);"
	holdTold(t, 1, "fuel", text)
	holdTold(t, 2, "print 1; fuel", text)
	holdTold(t, 3, `print 1; print "s"; blame own 1`, text)
}

// P11.1: a function is run with what was in scope where it stood, and with what it is called with.
func TestScope(t *testing.T) {
	sub := func(a, b api.Core) api.Core { return numbered(api.COp, api.OpSub, a, b) }
	holdCores(t,
		cores{call(fn(variable(1)), num(4)), "done 4"},
		cores{call(fn(variable(0)), num(4)), "done null"},
		cores{let(num(1), call(fn(rec("a b c", variable(0), variable(1), variable(2))), num(4))), "done {a: null, b: 1, c: 4}"},
		// What came in scope behind the place where it stood is not seen, nor changes its numbers.
		cores{let(fn(sub(num(10), variable(1))), let(num(2), let(num(3), call(variable(1), variable(2))))), "done 8"},
		cores{let(num(1), let(fn(sub(variable(1), variable(2))), let(num(3), call(variable(2), num(5))))), "done -4"},
		// A function of the program sees what it takes alone.
		cores{let(num(1), call(fn(call(variable(2), num(3))), fn(sub(variable(2), variable(1))))), "done 2"},
		// One function, called time and again, with a scope of its own each time.
		cores{let(fn(fn(sub(variable(1), variable(2)))), let(call(variable(1), num(10)), let(call(variable(1), num(20)),
			rec("a b c", call(variable(2), num(1)), call(variable(3), num(1)), call(variable(2), num(2)))))), "done {a: 9, b: 19, c: 8}"},
	)
	holdRuns(t,
		runs{"fn add(a: int): int -> int = fn (b: int): int => a + b; fn main(x) = let f = add(1); let g = add(10); {a: f(5), b: g(5), c: f(6)};", "done {a: 6, b: 15, c: 7}"},
		runs{"fn main(x) = let n = 1; let f = fn (y: int): int => n + y; let n = 100; f(5);", "done 6"},
		runs{"fn main(x) = let n = 1; let f = fn (n: int): int => n * 2; f(5) + n;", "done 11"},
		runs{"fn g(f: int -> int): int = let n = 50; f(n); fn main(x) = let n = 3; g(fn (k: int): int => k - n);", "done 47"},
		runs{"fn main(x) = (fn (a) => fn (b) => fn (c) => {c: c, b: b, a: a})(1)(2)(3);", "done {a: 1, b: 2, c: 3}"},
		runs{"fn main(x) = let f = fn (a) => let b = {a: a}; fn (c) => {b with c: c}; let g = f(1); let h = f(2); let p = print(g(3)); h(4);", "print {a: 1, c: 3}; done {a: 2, c: 4}"},
		runs{"fn fix(f) = f(f); fn main(x) = let s = fn (self) => fn (n) => if n < 1 then 0 else n + self(self)(n - 1); fix(s)(10);", "done 55"},
		runs{"fn even(n: int): bool = if n == 0 then true else odd(n - 1); fn odd(n: int): bool = if n == 0 then false else even(n - 1); fn main(x) = {a: even(10), b: even(7)};", "done {a: true, b: false}"},
		runs{"fn f(n) = if n < 2 then n else f(n - 1) + f(n - 2); fn main(x) = f(12);", "done 144"},
	)
}

// P11.1: functions of the program by their numbers, also of other modules, and of instances.
func TestGlobals(t *testing.T) {
	holdTold(t, plenty, "done {a: 11, b: 22, c: 33}",
		"import a: f; import b: g; fn h(n: int): int = n * 3; fn main(x) = {a: f(11), b: g(11), c: h(11)};",
		"a:: export fn f(n: int): int = h(n); fn h(n: int): int = n * 1;",
		"b:: fn h(n: int): int = n * 2; export fn g(n: int): int = h(n);")
	holdTold(t, plenty, `done {a: 1, b: "s", c: fn}`,
		"fn id[A](x: A): A = x; fn main(x) = {a: id[int](1), b: id[str](\"s\"), c: id[any -> any](main)};")
}

// P1, P11.1: calls within calls, as many as there is fuel, and calls in the place of others.
func TestDeepCalls(t *testing.T) {
	const many = 1 << 20
	sum := "fn f(n: int): int = if n < 1 then 0 else n + f(n - 1); fn main(x) = f(%d);"
	holdTold(t, math.MaxInt64, "done 549755289600", fmt.Sprintf(sum, many-1))
	holdTold(t, many-1, "fuel", fmt.Sprintf(sum, many-1))
	holdTold(t, many, "fuel", "fn f(n) = {a: f(n)}; fn main(x) = f(1);")
	holdTold(t, many, "fuel", "fn f(n) = g(n) + 1; fn g(n): int = f(n); fn main(x) = f(1);")
	holdTold(t, many, "fuel", "fn main(x) = main(x);")
	holdTold(t, many, "done 0", "fn f(r) = if r.n < 1 then 0 else f({n: r.n - 1}); fn main(x) = f({n: 200000});")
}

// P1: there is room for what is still to be done, up to a bound; behind that the run ends by Memory.
func TestRoom(t *testing.T) {
	p := program(t, "fn f(n: int): int = let a = print(n); 1 + f(n + 1); fn main(x) = f(0);")
	run := func(room, fuel int) string {
		r := newRunner(p.Funs, nil, fuel)
		r.room = room
		e := r.attempt(p.Main)
		return told(api.Trace{Lines: r.lines, End: e.how, N: e.n, Text: e.text})
	}
	if got := run(10, 3); got != "print 0; print 1; print 2; fuel" {
		t.Error(got)
	}
	for fuel := 100; fuel < 1<<62; fuel *= 2 {
		if got := run(4, fuel); got != "print 0; print 1; print 2; memory" && got != "print 0; print 1; memory" {
			t.Error(fuel, got)
		}
	}
	// A call in the place of another one needs none.
	p = program(t, "fn f(n: int): int = if n < 1 then 7 else f(n - 1); fn main(x) = f(10000);")
	if got := run(6, 1<<62); got != "done 7" {
		t.Error(got)
	}
}
