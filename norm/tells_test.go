package norm

import (
	"strings"
	"testing"

	"gradus/api"
	"gradus/run"
)

// P12.3: programs that end in each way tell the same as they are, with false and with true, with any fuel and any numbers to read.
func TestTellsTheSame(t *testing.T) {
	for _, c := range []struct{ text, begins string }{
		{`fn main(x) = print((((read() as any) as int) as any) as int | null);`, "read 5; print 5; done 0 null"},
		{`fn f(x) = x; fn main(x) = let a = print(f); f({a: 1, b: f(2)});`, "print fn; done 0 {a: 1, b: 2}"},
		{`fn f(x) = x; fn main(x) = f(f)(f)(f(f(7) + 1) * 2);`, "done 0 16"},
		{`fn f(r: {a: int, b: any}): any = r; fn main(x) = {f({a: 1, b: 2}) with c: 3};`, "done 0 {a: 1, b: 2, c: 3}"},
		// Its own side is blamed.
		{`fn f(x) = x; fn main(x) = f("a") + 1;`, "blame 4 "},
		{`fn main(x) = let a = print(1); ((1 as any) as str);`, "print 1; blame 4 "},
		{`fn main(x) = (((1 as any) as int) as any) as str;`, "blame 8 "},
		{`fn main(x) = read() + (((read() as any) as null | str) as any);`, "read 5; read -6; blame 4 "},
		{`fn f(x): {a: int, b: int} = x; fn main(x) = let a = print(1); f({a: 1}).a;`, "print 1; blame 2 "},
		{`fn f(x): {a: int} = x; fn main(x) = let r = f({a: "s"}); let a = print(r); r.a;`, `print {a: "s"}; blame 2 `},
		{`fn f(x): int -> int = x; fn main(x) = let g = f(fn (y) => "s"); let a = print(g); g(1);`, "print fn; blame 2 "},
		{`fn f(x): int -> int = x; fn main(x) = f(fn (y) => y)(1);`, "done 0 1"},
		// The other side is.
		{`fn f(g: any -> int): int = g(1); fn main(x) = f((fn (s: str): int => 2) as any);`, "blame 5 "},
		{`fn f(g: any -> int): any = g; fn main(x) = f(fn (n: int): int => n)("s");`, "blame 5 "},
		{`fn f(n: int): int = n; fn main(x) = ((f as any) as any -> any)("s");`, "blame 3 "},
		// Each trap.
		{`fn main(x) = let a = print(1); (1 as any) / 0;`, "print 1; trap 1 "},
		{`fn main(x) = {a: read(), b: read(), c: read(), d: (read() as any)};`, "read 5; read -6; read 7; trap 2 "},
		{`fn main(x) = ({a: x} as any) == ({b: x} as any);`, "trap 3 "},
		{`fn f(s: str): str = (s as any) ++ s; fn main(x) = f(f(f("` + strings.Repeat("s", 250) + `"))) ++ f(f(f("` + strings.Repeat("s", 256) + `")));`, "done 0 "},
		{`fn f(s) = s ++ s; fn main(x) = f(f(f(f(f("` + strings.Repeat("s", 129) + `")))));`, "trap 4 "},
		// No end but by the fuel.
		{`fn f(x) = print(f(x + 1)); fn main(x) = f(1);`, "fuel 0 "},
		{`fn f(x) = let a = print(x); f(x + 1); fn main(x) = f(1);`, "print 1; print 2; print 3; "},
		// A field that its type hides is not coerced: all three go on with it in the same way.
		{`fn f(r: {a: int}): any = r; fn main(x) = f({a: 1, b: fn (n: int): int => n + 1}).b("s");`, ""},
	} {
		p := program(t, c.text)
		plain, trims := holdLaws(t, c.text, p)
		for _, input := range [][]int{{5, -6, 7}, nil, {1}, {5, -6, 7, 8}, {0, 1 << 62, -1 << 63}} {
			for fuel := -1; fuel <= 30; fuel++ {
				want := run.Run(p, input, fuel)
				for _, q := range []api.Program{plain, trims} {
					if got := run.Run(q, input, fuel); !sameTrace(got, want) {
						t.Errorf("%s\ninput %d, fuel %d\ngot  %s\nwant %s", c.text, input, fuel, told(got), told(want))
					}
				}
			}
		}
		if got := told(run.Run(trims, []int{5, -6, 7}, 30)); !strings.HasPrefix(got, c.begins) {
			t.Errorf("%s\ngot  %s\nand does not begin with %s", c.text, got, c.begins)
		}
	}
}
