package run

import (
	"slices"
	"testing"

	"gradus/api"
	"gradus/check"
	"gradus/coerce"
	"gradus/link"
	"gradus/rel"
)

func same(a, b api.Trace) bool {
	return slices.Equal(a.Lines, b.Lines) && a.End == b.End && a.N == b.N && a.Text == b.Text
}

var someInput = []int{0, 1, -1, 2, 17, 4, -300, 1 << 40, 3}

const someFuel = 60

// programs hands on made-up programs that were checked, each with its text; some are not right, and are passed over.
func programs(t *testing.T, seed chance, number int, k maker, look func(text string, p api.Program)) {
	t.Helper()
	k.chance = &seed
	wrong := 0
	for range number {
		text := k.makeUp()
		l, d := link.Link(sources(text))
		if len(d) > 0 {
			t.Fatal(text, d)
		}
		p, d := check.Check(l)
		if len(d) > 0 {
			wrong++
			continue
		}
		look(text, p)
	}
	if wrong > number/8 {
		t.Error(wrong, "of", number, "are not right")
	}
}

// tally is what came up in made-up programs.
type tally struct {
	ends                     [6]int
	kinds                    [api.CKinds]int
	lines, chains, own, over int
}

func (y *tally) count(c api.Core) {
	y.kinds[c.Kind]++
	for _, kid := range c.Kids {
		y.count(kid)
	}
}

// holdReading holds a program against the second reading, and its label against rel.
func (y *tally) holdReading(t *testing.T, text string, p api.Program) {
	t.Helper()
	r, want := read(p, someInput, someFuel)
	got := Run(p, someInput, someFuel)
	if want.End == tooMuch.how {
		y.over++
		return
	}
	if !same(got, want) {
		t.Fatalf("%s\ngot  %s\nwant %s", text, told(got), told(want))
	}
	y.ends[got.End]++
	y.lines += len(got.Lines)
	if r.borne > 1 {
		y.chains++
	}
	for _, f := range p.Funs {
		y.count(f.Body)
	}
	if got.End == api.EndBlame {
		y.own += 1 - got.N%2
		holdLabel(t, text, p, got.N)
	}
}

// holdLabel: P11.3, a label that is blamed is that of a cast that can blame that side.
func holdLabel(t *testing.T, text string, p api.Program, label int) {
	t.Helper()
	site, can := label/2-1, false
	if site < 0 || site >= len(p.Sites) {
		t.Fatalf("%s\nblames %d, and has %d sites", text, label, len(p.Sites))
	}
	for _, f := range p.Funs {
		eachCast(f.Body, func(c api.Core) {
			blames := rel.Pos
			if label%2 == 1 {
				blames = rel.Neg
			}
			can = can || c.N == site && !blames(c.Types[0], c.Types[1])
		})
	}
	if !can {
		t.Fatalf("%s\nblames %d, which no cast can", text, label)
	}
}

func eachCast(c api.Core, look func(api.Core)) {
	if c.Kind == api.CCast {
		look(c)
	}
	for _, kid := range c.Kids {
		eachCast(kid, look)
	}
}

// P11.1, P11.2, P11.3: made-up programs tell what the second reading says, and blame whom they may. None is stuck.
func TestMadeUp(t *testing.T) {
	for i, k := range []maker{{}, {wide: true}} {
		var y tally
		programs(t, chance(88172645463325252+i), 7000, k, func(text string, p api.Program) { y.holdReading(t, text, p) })
		for kind, number := range y.kinds[:api.CCo] {
			if number < 200 {
				t.Errorf("cores of the kind %d came up just %d times", kind, number)
			}
		}
		other := y.ends[api.EndBlame] - y.own
		if y.ends[api.EndDone] < 3000 || y.ends[api.EndTrap] < 50 || y.ends[api.EndFuel] < 500 || y.own < 900 || other < 100 || y.lines < 10000 || y.chains < 500 || y.over > 20 {
			t.Errorf("%+v", y)
		}
		if y.ends[api.EndStuck] > 0 || y.ends[api.EndMemory] > 0 {
			t.Errorf("%+v", y)
		}
	}
}

// P11.3: a program without casts blames nobody.
func TestWithoutCasts(t *testing.T) {
	var y tally
	programs(t, 99, 4000, maker{strict: true}, func(text string, p api.Program) {
		if len(p.Sites) == 0 {
			y.holdReading(t, text, p)
		}
	})
	if y.ends[api.EndBlame] > 0 || y.ends[api.EndStuck] > 0 || y.ends[api.EndDone] < 2000 || y.ends[api.EndTrap] < 100 || y.ends[api.EndFuel] < 400 {
		t.Errorf("%+v", y)
	}
}

// P11.3: with more fuel a run that did not end by Fuel is the same; one that did tells at least these lines.
func TestMoreFuel(t *testing.T) {
	changed, more := 0, 0
	for i, k := range []maker{{}, {strict: true}} {
		programs(t, chance(4711+i), 1500, k, func(text string, p api.Program) {
			last := Run(p, someInput, -3)
			for _, fuel := range []int{-1, 0, 1, 2, 3, 4, 5, 8, 13, 21, 34, 55, 90, 91} {
				next := Run(p, someInput, fuel)
				if len(next.Lines) < len(last.Lines) || !slices.Equal(next.Lines[:len(last.Lines)], last.Lines) || last.End != api.EndFuel && !same(last, next) {
					t.Fatalf("%s\nwith less than %d: %s\nwith it: %s", text, fuel, told(last), told(next))
				}
				if next.End != last.End {
					changed++
				}
				if len(next.Lines) > len(last.Lines) {
					more++
				}
				last = next
			}
		})
	}
	if changed < 400 || more < 2000 {
		t.Error(changed, more)
	}
}

// P11.1: CCo. With coercions in the place of casts, and with those that stand within one another put together, a
// program tells the same.
func TestCoercionsForCasts(t *testing.T) {
	blames, together := 0, 0
	programs(t, 31337, 2500, maker{}, func(text string, p api.Program) {
		want := Run(p, someInput, someFuel)
		for _, merge := range []bool{false, true} {
			q := p
			q.Funs = slices.Clone(p.Funs)
			for i := range q.Funs {
				q.Funs[i].Body = withCoercions(q.Funs[i].Body, merge, &together)
			}
			if got := Run(q, someInput, someFuel); !same(got, want) {
				t.Fatalf("%s\ngot  %s\nwant %s", text, told(got), told(want))
			}
		}
		if want.End == api.EndBlame {
			blames++
		}
	})
	if blames < 400 || together < 800 {
		t.Error(blames, together)
	}
}

func withCoercions(c api.Core, merge bool, together *int) api.Core {
	c.Kids = slices.Clone(c.Kids)
	for i := range c.Kids {
		c.Kids[i] = withCoercions(c.Kids[i], merge, together)
	}
	if c.Kind != api.CCast {
		return c
	}
	made, kid := coerce.Make(c.Types[0], c.Types[1], 2*c.N+2), c.Kids[0]
	if merge && kid.Kind == api.CCo {
		*together++
		made, kid = coerce.Compose(kid.Cos[0], made), kid.Kids[0]
	}
	return coerced(made, kid)
}
