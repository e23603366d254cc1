package flat

import (
	"fmt"
	"slices"
	"strings"
	"testing"

	"gradus/api"
	"gradus/check"
	"gradus/coerce"
	"gradus/link"
	"gradus/rel"
	"gradus/run"
)

// programs hands on made-up programs that were checked, each with its text; some are not right, and are passed over.
func programs(t *testing.T, seed chance, number int, k maker, look func(text string, p api.Program)) {
	t.Helper()
	k.chance = &seed
	wrong := 0
	for range number {
		text := k.makeUp()
		l, d := link.Link(sources(text))
		if len(d) > 0 {
			t.Fatal(text, d)
		}
		p, d := check.Check(l)
		if len(d) > 0 {
			wrong++
			continue
		}
		look(text, p)
	}
	if wrong > number/8 {
		t.Error(wrong, "of", number, "are not right")
	}
}

// tally is what came up in made-up programs.
type tally struct {
	ends                       [6]int
	kinds                      [api.CKinds]int
	captures                   [9]int // CMakes by how many they capture
	lines, chains, other, over int
}

func (y *tally) count(l []api.Flat) {
	for _, f := range l {
		each(f.Body, func(c api.Core) {
			y.kinds[c.Kind]++
			if c.Kind == api.CMake {
				y.captures[min(len(c.Ints), 8)]++
			}
		})
	}
}

func (y *tally) add(tr api.Trace) {
	y.ends[tr.End]++
	y.lines += len(tr.Lines)
	if tr.End == api.EndBlame {
		y.other += tr.N % 2
	}
}

var (
	someInputs = [][]int{nil, {0, 1}, {3, -1, 2, 17, 4, -300, 1 << 40, 3, 1, 2, 0, 5}}
	someFuels  = []int{-1, 0, 1, 2, 4, 9, 60}
)

// holdForms holds what becomes of a program, in each of its forms, against the program.
func (y *tally) holdForms(t *testing.T, text string, p api.Program) {
	t.Helper()
	all := forms(p)
	for _, l := range all {
		y.count(l)
	}
	for _, input := range someInputs {
		for _, fuel := range someFuels {
			want := run.Run(p, input, fuel)
			for form, l := range all {
				if got := Run(l, p.Main, input, fuel); !same(got, want) {
					t.Fatalf("%s\nform %d, input %d, fuel %d\ngot  %s\nwant %s", text, form, input, fuel, told(got), told(want))
				}
			}
			y.add(want)
			if want.End == api.EndBlame {
				holdLabel(t, text, p, want.N)
			}
		}
	}
}

// holdLabel: P14.1, a label that is blamed is that of a cast that can blame that side (P11.3).
func holdLabel(t *testing.T, text string, p api.Program, label int) {
	t.Helper()
	can := false
	for _, f := range p.Funs {
		each(f.Body, func(c api.Core) {
			if c.Kind == api.CCast && c.N == label/2-1 {
				blames := []func(a, b api.Type) bool{rel.Pos, rel.Neg}[label%2]
				can = can || !blames(c.Types[0], c.Types[1])
			}
		})
	}
	if !can {
		t.Fatalf("%s\nblames %d, which no cast can", text, label)
	}
}

// P14.2: what becomes of made-up programs, with casts, with coercions, and with these trimmed, tells just what they tell.
func TestMadeUp(t *testing.T) {
	for i, k := range []maker{{}, {wide: true}} {
		var y tally
		programs(t, chance(88172645463325252+i), 2500, k, func(text string, p api.Program) { y.holdForms(t, text, p) })
		for kind, number := range y.kinds {
			if kind != api.CFn && number < 200 {
				t.Errorf("cores of the kind %d came up just %d times", kind, number)
			}
		}
		if y.captures[0] < 2000 || y.captures[1] < 8000 || y.captures[2] < 5000 || y.captures[3] < 1000 || y.captures[4] < 80 {
			t.Errorf("%+v", y)
		}
		own := y.ends[api.EndBlame] - y.other
		if y.ends[api.EndDone] < 15000 || y.ends[api.EndTrap] < 800 || y.ends[api.EndFuel] < 8000 || own < 5000 || y.other < 500 || y.lines < 20000 || y.ends[api.EndStuck]+y.ends[api.EndMemory] > 0 {
			t.Errorf("%+v", y)
		}
	}
}

// P14.1, P14.2: without casts nobody is blamed.
func TestWithoutCasts(t *testing.T) {
	var y tally
	programs(t, 99, 1500, maker{strict: true}, func(text string, p api.Program) {
		if len(p.Sites) == 0 {
			y.holdForms(t, text, p)
		}
	})
	if y.ends[api.EndBlame]+y.ends[api.EndStuck]+y.kinds[api.CCast]+y.kinds[api.CCo] > 0 || y.ends[api.EndDone] < 5000 || y.ends[api.EndTrap] < 500 || y.ends[api.EndFuel] < 2000 {
		t.Errorf("%+v", y)
	}
}

// P14.1: with more fuel a run that did not end by Fuel is the same; one that did tells at least these lines.
func TestMoreFuel(t *testing.T) {
	changed, more := 0, 0
	programs(t, 4711, 1200, maker{}, func(text string, p api.Program) {
		l := forms(p)[2]
		last := Run(l, p.Main, someInputs[2], -3)
		for _, fuel := range []int{-1, 0, 1, 2, 3, 4, 5, 8, 13, 21, 34, 55, 90, 91} {
			next := Run(l, p.Main, someInputs[2], fuel)
			if len(next.Lines) < len(last.Lines) || !slices.Equal(next.Lines[:len(last.Lines)], last.Lines) || last.End != api.EndFuel && !same(last, next) {
				t.Fatalf("%s\nwith less than %d: %s\nwith it: %s", text, fuel, told(last), told(next))
			}
			if next.End != last.End {
				changed++
			}
			if len(next.Lines) > len(last.Lines) {
				more++
			}
			last = next
		}
	})
	if changed < 150 || more < 500 {
		t.Error(changed, more)
	}
}

// anyFlats are flat functions of any cores at all: what they do fits as it may. Numbers of variables and functions, and
// how many CMakes hand over, are right.
func (c *chance) anyFlats() []api.Flat {
	l := make([]api.Flat, 2+c.below(4))
	for i := 1; i < len(l); i++ {
		l[i].Caps = c.below(4)
	}
	for i := range l {
		l[i].Name = fmt.Sprint("main.f", i)
		l[i].Body = c.anyCore(l, 2+c.below(4), l[i].Caps+1)
	}
	return l
}

func (c *chance) anyFunction(l []api.Flat, scope int) api.Core {
	n := c.below(len(l))
	if l[n].Caps == 0 && c.below(2) == 0 {
		return global(n)
	}
	m := makes(n)
	for range l[n].Caps {
		m.Ints = append(m.Ints, c.below(scope))
	}
	return m
}

func (c *chance) anyLeaf(l []api.Flat, scope int) api.Core {
	switch c.below(10) {
	case 0:
		return num(c.below(3))
	case 1:
		return []api.Core{nothing(), boolean(c.below(2)), str(c.one("s tt")), core(api.CRead)}[c.below(4)]
	case 2, 3, 4:
		return c.anyFunction(l, scope)
	}
	return variable(c.below(scope))
}

func (c *chance) anyCore(l []api.Flat, height, scope int) api.Core {
	if height <= 1 {
		return c.anyLeaf(l, scope)
	}
	kid := func() api.Core { return c.anyCore(l, height-1, scope) }
	record := func() api.Core { return c.anyCoerced(rec("b a", kid(), kid())) }
	name := c.one("a b")
	switch c.below(30) {
	case 0, 1, 2, 3, 4, 5:
		return call(c.anyCoerced(c.anyFunction(l, scope)), kid())
	case 6:
		return call(kid(), kid())
	case 7, 8, 9, 10, 11:
		return let(kid(), c.anyCore(l, height-1, scope+1))
	case 12, 13:
		return record()
	case 14, 15:
		return sel(record(), name)
	case 16:
		return sel(kid(), name)
	case 17, 18:
		return with(record(), c.one("a b c"), kid())
	case 19, 20:
		return core(api.CIf, numbered(api.CIs, c.below(api.Tags), kid()), kid(), kid())
	case 21:
		return numbered(api.COp, c.below(api.Ops), kid(), kid())
	case 22:
		return numbered(api.COp, c.below(api.Ops), num(c.below(9)), num(c.below(3)))
	case 23:
		return core([]int{api.CEq, api.CCat}[c.below(2)], kid(), kid())
	case 24:
		return core([]int{api.CNot, api.CNeg}[c.below(2)], kid())
	case 25, 26:
		return print(kid())
	case 27:
		return cast(c.below(40), "any", []string{"any -> any", "any -> int", "{a: int -> any, b: any}", "{a: any} | int | (str -> null)"}[c.below(4)], kid())
	}
	return c.anyCoerced(kid())
}

// anyCoerced is an expression with some coercions behind it.
func (c *chance) anyCoerced(e api.Core) api.Core {
	for range c.below(4) {
		e = coerced(e, c.anyCo(3))
	}
	return e
}

// anyCo blames no more than a few.
func (c *chance) anyCo(height int) api.Co {
	if height > 1 {
		switch c.below(4) {
		case 0:
			return onField(c.one("a b"), c.anyCo(height-1))
		case 1, 2:
			return []api.Co{onFun(c.anyCo(height-1), coerce.Id()), onFun(coerce.Id(), c.anyCo(height-1)), onFun(c.anyCo(height-1), c.anyCo(height-1))}[c.below(3)]
		}
	}
	labels := make([]int, api.Tags)
	labels[c.below(api.Tags)] = 2 + c.below(40)
	co := tags(labels...)
	if c.below(4) == 0 {
		co.Needs = []api.Need{{Name: c.one("a b c"), Label: 2 + c.below(40)}}
	}
	return co
}

// P14.1: any flat functions, held against the second reading; so are what becomes of made-up programs.
func TestReading(t *testing.T) {
	var y tally
	hold := func(what string, l []api.Flat, main int, input []int, fuel int) {
		t.Helper()
		r, want := read(l, main, input, fuel)
		got := Run(l, main, input, fuel)
		switch {
		case want.End == tooMuch.how:
			y.over++
		case !same(got, want):
			t.Fatalf("%s\ngot  %s\nwant %s", what, told(got), told(want))
		default:
			y.add(got)
		}
		if r.borne > 1 {
			y.chains++
		}
	}
	c := chance(362436069)
	for range 30000 {
		l := c.anyFlats()
		y.count(l)
		hold(fmt.Sprintf("%+v", l), l, 0, someInputs[c.below(3)], c.below(30))
	}
	// What they do fits but often, so that all ends come up.
	own := y.ends[api.EndBlame] - y.other
	if y.ends[api.EndDone] < 5000 || own < 1500 || y.other < 1000 || y.ends[api.EndTrap] < 200 || y.ends[api.EndFuel] < 500 || y.ends[api.EndStuck] < 5000 || y.lines < 5000 || y.chains < 500 || y.over > 100 {
		t.Errorf("%+v", y)
	}
	y = tally{}
	programs(t, 2718, 1500, maker{}, func(text string, p api.Program) {
		for _, l := range forms(p) {
			y.count(l)
			hold(text, l, p.Main, someInputs[2], 60)
		}
	})
	if y.ends[api.EndDone] < 2000 || y.ends[api.EndBlame] < 600 || y.ends[api.EndStuck] > 0 || y.chains < 200 || y.over > 20 {
		t.Errorf("%+v", y)
	}
}

// P14.2: programs that end in each way tell the same in each form, with any fuel and any numbers to read.
func TestTellsTheSame(t *testing.T) {
	for _, c := range []struct{ text, begins string }{
		{`fn main(x) = print((((read() as any) as int) as any) as int | null);`, "read 5; print 5; done null"},
		{`fn f(x) = fn (y) => x(y); fn main(x) = let a = print(f); f(fn (z) => {a: 1, b: z})(2);`, "print fn; done {a: 1, b: 2}"},
		{`fn f(r: {a: int, b: any}): any = fn (y) => {r with d: y}; fn main(x) = {f({a: 1, b: 2})(4) with c: 3};`, "done {a: 1, b: 2, c: 3, d: 4}"},
		// Its own side is blamed, and the other one.
		{`fn f(x) = x; fn main(x) = let s = "a"; (fn (y) => f(s) + 1)(1);`, "blame 4"},
		{`fn f(x): int -> int = x; fn main(x) = let s = "s"; let g = f(fn (y) => s); let a = print(g); g(1);`, "print fn; blame 2"},
		{`fn f(g: any -> int): any = g; fn main(x) = let k = 1; f(fn (n: int): int => n + k)("s");`, "blame 5"},
		// Each trap.
		{`fn main(x) = let a = print(1); (fn (y) => y / 0)(1);`, "print 1; trap 1"},
		{`fn main(x) = let f = fn (y) => read(); {a: f(1), b: f(2), c: f(3), d: f(4)};`, "read 5; read -6; read 7; trap 2"},
		{`fn main(x) = let f = fn (y) => x; (f as any) == f;`, "trap 3"},
		{`fn f(s) = s ++ s; fn main(x) = f(f(f(f(f("` + strings.Repeat("s", 129) + `")))));`, "trap 4"},
		// No end but by the fuel.
		{`fn f(x) = print((fn (y) => f(x + y))(1)); fn main(x) = f(1);`, "fuel"},
		{`fn f(x) = let a = print(x); (fn (y) => f(x + y))(1); fn main(x) = f(1);`, "print 1; print 2; print 3; "},
		// A field that its type hides is not coerced: all go on with it in the same way.
		{`fn f(r: {a: int}): any = r; fn main(x) = f({a: 1, b: fn (n: int): int => n + 1}).b("s");`, "stuck"},
	} {
		p := program(t, c.text)
		for _, input := range [][]int{{5, -6, 7}, nil, {1}, {5, -6, 7, 8}, {0, 1 << 62, -1 << 63}} {
			for fuel := -1; fuel <= 30; fuel++ {
				want := run.Run(p, input, fuel)
				for form, l := range forms(p) {
					if got := Run(l, p.Main, input, fuel); !same(got, want) {
						t.Errorf("%s\nform %d, input %d, fuel %d\ngot  %s\nwant %s", c.text, form, input, fuel, told(got), told(want))
					}
				}
			}
		}
		if got := told(Run(forms(p)[2], p.Main, []int{5, -6, 7}, 30)); !strings.HasPrefix(got, c.begins) {
			t.Errorf("%s\ngot  %s\nand does not begin with %s", c.text, got, c.begins)
		}
	}
}
