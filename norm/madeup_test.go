package norm

import (
	"fmt"
	"slices"
	"strings"
	"testing"

	"gradus/api"
	"gradus/check"
	"gradus/coerce"
	"gradus/link"
	"gradus/run"
)

// holdLaws holds what Norm makes of a program against the second reading, what it makes of that again, and what P12.3
// says of both.
func holdLaws(t *testing.T, text string, p api.Program) (plain, trims api.Program) {
	t.Helper()
	plain, trims = Norm(p, false), Norm(p, true)
	for _, c := range []struct {
		what      string
		got, want api.Program
	}{
		{"with false", plain, read(p, false)},
		{"with true", trims, read(p, true)},
		{"with false, then with false", Norm(plain, false), plain},
		{"with false, then with true", Norm(plain, true), trims},
		{"with true, then with false", Norm(trims, false), trims},
		{"with true, then with true", Norm(trims, true), trims},
	} {
		if !same(c.got, c.want) {
			t.Fatalf("%s\n%s:\ngot  %s\nwant %s", text, c.what, whole(c.got), whole(c.want))
		}
	}
	if casts := count(p, api.CCast) + count(p, api.CCo); count(plain, api.CCast)+count(trims, api.CCast) > 0 || count(plain, api.CCo) != casts || count(trims, api.CCo) > casts {
		t.Fatalf("%s\n%d casts: %d and %d coercions", text, casts, count(plain, api.CCo), count(trims, api.CCo))
	}
	for i := range trims.Funs {
		each(&trims.Funs[i].Body, func(c *api.Core) {
			if c.Kind == api.CCo && (coerce.Same(c.Cos[0], coerce.Id()) || c.Kids[0].Kind == api.CCo) {
				t.Fatalf("%s\nwith true there is still %s", text, brief(*c))
			}
		})
	}
	return plain, trims
}

// anyTypes are some types, each of which is cast to each other one.
var anyTypes = []string{"any", "int", "int | null", "any -> any", "any -> int", "int -> any", "{a: int}", "{a: any, b: any}", "{a: int -> any} | str", "(any -> any) -> any", "null | bool | int | str | {} | (any -> any)"}

// anyCore is any core at all, with many casts and coercions right within one another.
func (c *chance) anyCore(height int) api.Core {
	k := c.bareCore(height)
	for c.below(3) > 0 {
		if c.below(2) == 0 {
			k = cast(c.below(40), anyTypes[c.below(len(anyTypes))], anyTypes[c.below(len(anyTypes))], k)
			continue
		}
		k = on(c.anyCo(), k)
	}
	return k
}

func (c *chance) anyCo() api.Co {
	made := coerce.Id()
	for range c.below(3) {
		a, b := anyTypes[c.below(len(anyTypes))], anyTypes[c.below(len(anyTypes))]
		made = coerce.Compose(made, coerce.Make(typ(a), typ(b), 2+c.below(40)))
	}
	return made
}

func (c *chance) bareCore(height int) api.Core {
	if c.below(3) == 0 || height <= 1 {
		list := alone()
		if n := c.below(len(list) + 2); n < len(list) {
			return copyAll(list[n].kid)
		}
		return variable(c.below(3))
	}
	list := kindsWithKids()
	k := list[c.below(len(list)-2)]
	k.Kids = make([]api.Core, len(k.Kids))
	for i := range k.Kids {
		k.Kids[i] = c.anyCore(height - 1)
	}
	return k
}

// P12.1, P12.2, P12.3: made-up programs, whatever their casts are, held against the second reading.
func TestAnyCores(t *testing.T) {
	c := chance(362436069)
	var left, out int
	for range 2000 {
		var bodies []api.Core
		for range 1 + c.below(4) {
			bodies = append(bodies, c.anyCore(1+c.below(5)))
		}
		p := byHand(bodies...)
		p.Main = c.below(len(bodies))
		plain, trims := holdLaws(t, "cores", p)
		left += count(trims, api.CCo)
		out += count(plain, api.CCo) - count(trims, api.CCo)
	}
	if left < 5000 || out < 20000 {
		t.Error(left, out)
	}
}

// programs hands on made-up programs that were checked, each with its text; some are not right, and are passed over.
func programs(t *testing.T, seed chance, number int, k maker, look func(text string, p api.Program)) {
	t.Helper()
	k.chance = &seed
	wrong := 0
	for range number {
		text := k.makeUp()
		l, d := link.Link(sources(text))
		if len(d) > 0 {
			t.Fatal(text, d)
		}
		p, d := check.Check(l)
		if len(d) > 0 {
			wrong++
			continue
		}
		look(text, p)
	}
	if wrong > number/8 {
		t.Error(wrong, "of", number, "are not right")
	}
}

func sameTrace(a, b api.Trace) bool {
	return slices.Equal(a.Lines, b.Lines) && a.End == b.End && a.N == b.N && a.Text == b.Text
}

func told(tr api.Trace) string {
	end := strings.Fields("done blame trap fuel memory stuck")[tr.End]
	return strings.Join(append(slices.Clone(tr.Lines), fmt.Sprint(end, " ", tr.N, " ", tr.Text)), "; ")
}

// tally is how many times something came up.
type tally struct {
	ends                 [6]int
	kinds                [api.CKinds]int // right within a coercion that is left
	lines, left, out, by int
}

// holdTells holds a program, and both of what Norm makes of it, against one another, with several fuels and numbers to read.
func (y *tally) holdTells(t *testing.T, text string, p api.Program) {
	t.Helper()
	plain, trims := holdLaws(t, text, p)
	y.left += count(trims, api.CCo)
	y.out += count(plain, api.CCo) - count(trims, api.CCo)
	for i := range trims.Funs {
		each(&trims.Funs[i].Body, func(c *api.Core) {
			if c.Kind == api.CCo {
				y.kinds[c.Kids[0].Kind]++
			}
		})
	}
	for _, input := range [][]int{nil, {0, 1}, {3, -1, 2, 17, 4, -300, 1 << 40, 3, 1, 2, 0, 5}} {
		for _, fuel := range []int{-1, 0, 1, 3, 9, 50} {
			want := run.Run(p, input, fuel)
			for _, q := range []api.Program{plain, trims} {
				if got := run.Run(q, input, fuel); !sameTrace(got, want) {
					t.Fatalf("%s\ninput %d, fuel %d\ngot  %s\nwant %s", text, input, fuel, told(got), told(want))
				}
			}
			y.ends[want.End]++
			y.lines += len(want.Lines)
			if want.End == api.EndBlame {
				y.by += want.N % 2
			}
		}
	}
}

// P12.1, P12.2, P12.3: made-up programs that were checked tell the same, and are held against the second reading.
func TestMadeUp(t *testing.T) {
	for i, k := range []maker{{}, {wide: true}} {
		var y tally
		programs(t, chance(521288629+i), 2000, k, func(text string, p api.Program) { y.holdTells(t, text, p) })
		for _, kind := range []int{api.CInt, api.CStr, api.CBool, api.CNull, api.CVar, api.CFn, api.CGlobal, api.CCall, api.CRec, api.CSel, api.CIf, api.CLet} {
			if y.kinds[kind] < 30 {
				t.Errorf("there are just %d coercions left around cores of the kind %d", y.kinds[kind], kind)
			}
		}
		own := y.ends[api.EndBlame] - y.by
		if y.ends[api.EndDone] < 10000 || y.ends[api.EndTrap] < 500 || y.ends[api.EndFuel] < 5000 || own < 3000 || y.by < 300 || y.lines < 15000 || y.left < 5000 || y.out < 10000 {
			t.Errorf("%+v", y)
		}
	}
}

// P12.3: without casts there are no coercions.
func TestWithoutCasts(t *testing.T) {
	var y tally
	programs(t, 99, 1000, maker{strict: true}, func(text string, p api.Program) {
		if len(p.Sites) == 0 {
			y.holdTells(t, text, p)
			if got := Norm(p, true); !same(got, p) {
				t.Fatalf("%s\nhas become %s", text, whole(got))
			}
		}
	})
	if y.left+y.out > 0 || y.ends[api.EndBlame] > 0 || y.ends[api.EndDone] < 3000 {
		t.Errorf("%+v", y)
	}
}
