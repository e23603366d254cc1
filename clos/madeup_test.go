package clos

import (
	"testing"

	"gradus/api"
	"gradus/check"
	"gradus/link"
	"gradus/norm"
)

// tally is how many functions came up: how many there are, how many of them capture, how deep they stand, what they
// capture at most, and how many coercions there are.
type tally struct{ functions, capture, deepest, most, coercions int }

func (y *tally) add(l []api.Flat) {
	for _, f := range l {
		y.functions++
		if f.Caps > 0 {
			y.capture++
		}
		y.most = max(y.most, f.Caps)
		deep := 0
		for deep < len(f.Name) && f.Name[len(f.Name)-1-deep] == '\'' {
			deep++
		}
		y.deepest = max(y.deepest, deep)
		each(&f.Body, func(c *api.Core) {
			if c.Kind == api.CCo || c.Kind == api.CCast {
				y.coercions++
			}
		})
	}
}

// P13.1 to P13.4: any cores, held against the second reading.
func TestAnyCores(t *testing.T) {
	c := chance(362436069)
	var y tally
	for range 6000 {
		var bodies []api.Core
		for range 1 + c.below(3) {
			// What more stands around there is to be captured.
			lets := c.below(8)
			body := c.anyCore(1+c.below(8), 1+lets)
			for range lets {
				body = let(vari(0), body)
			}
			bodies = append(bodies, body)
		}
		y.add(holdAll(t, byHand(bodies...)))
	}
	if y.functions < 30000 || y.capture < 10000 || y.deepest < 6 || y.most < 6 || y.coercions < 1000 {
		t.Errorf("%+v", y)
	}
}

// P13.1 to P13.4: all small cores of variables, functions, CLet and calls.
func TestSmallCores(t *testing.T) {
	met := 0
	var all func(size, scope int) []api.Core
	all = func(size, scope int) []api.Core {
		var l []api.Core
		if size == 1 {
			for v := range scope {
				l = append(l, vari(v))
			}
			return l
		}
		for _, body := range all(size-1, scope+1) {
			l = append(l, fn(body))
		}
		for first := 1; first < size-1; first++ {
			for _, a := range all(first, scope) {
				for _, b := range all(size-1-first, scope) {
					l = append(l, call(a, b))
				}
				for _, b := range all(size-1-first, scope+1) {
					l = append(l, let(a, b))
				}
			}
		}
		return l
	}
	for size := 1; size <= 7; size++ {
		for _, c := range all(size, 1) {
			holdAll(t, byHand(c))
			met++
		}
	}
	if met < 2000 {
		t.Error(met)
	}
}

// P13.1 to P13.4: made-up programs that were checked, with casts, and with coercions, trimmed or not.
func TestMadeUp(t *testing.T) {
	c := chance(521288629)
	k := maker{chance: &c}
	var casts, plain, trims tally
	wrong := 0
	const number = 600
	for range number {
		text := k.makeUp()
		l, d := link.Link(sources(text))
		if len(d) > 0 {
			t.Fatal(text, d)
		}
		p, d := check.Check(l)
		if len(d) > 0 {
			wrong++
			continue
		}
		casts.add(holdAll(t, p))
		plain.add(holdAll(t, norm.Norm(p, false)))
		trims.add(holdAll(t, norm.Norm(p, true)))
	}
	if wrong > number/10 {
		t.Error(wrong, "of", number, "are not right")
	}
	if casts.functions < 8000 || casts.capture < 2500 || casts.deepest < 5 || casts.most < 3 || casts.coercions < 20000 {
		t.Errorf("%+v", casts)
	}
	if plain != casts || trims.coercions >= plain.coercions || trims.functions != plain.functions || trims.capture != plain.capture {
		t.Errorf("%+v, %+v, %+v", casts, plain, trims)
	}
}

// P13.2, P13.3: programs with casts, and what norm makes of them, in full.
func TestTexts(t *testing.T) {
	const text = "fn main(x) = let a = read(); let f = fn (y) => a + y; (fn (z) => f(z))(1); fn id[A](x: A): any = fn (y: A): A => x; fn g(x) = id[int](id[str](x));"
	p := program(t, text)
	holdAll(t, p)
	holdFlats(t, p,
		"main.main/0 = (2: let(read, let(make4[1], call(make5[2], (1: 1)))))",
		"main.g/0 = call(g2, (4: call(g3, (3: v0))))",
		"main.id[int]/0 = (5: make6[0])",
		"main.id[str]/0 = (6: make7[0])",
		"main.main'/1 = op(v0, (0: v1))",
		"main.main'/1 = call(v0, v1)",
		"main.id[int]'/1 = v0",
		"main.id[str]'/1 = v0")
	holdFlats(t, norm.Norm(p, false),
		"main.main/0 = [let(read, let(make4[1], call(make5[2], [1])))]",
		"main.g/0 = call(g2, [call(g3, [v0])])",
		"main.id[int]/0 = [make6[0]]",
		"main.id[str]/0 = [make7[0]]",
		"main.main'/1 = op(v0, [v1])",
		"main.main'/1 = call(v0, v1)",
		"main.id[int]'/1 = v0",
		"main.id[str]'/1 = v0")
	holdFlats(t, norm.Norm(p, true),
		"main.main/0 = let(read, let(make4[1], call(make5[2], 1)))",
		"main.g/0 = call(g2, [call(g3, [v0])])",
		"main.id[int]/0 = [make6[0]]",
		"main.id[str]/0 = [make7[0]]",
		"main.main'/1 = op(v0, [v1])",
		"main.main'/1 = call(v0, v1)",
		"main.id[int]'/1 = v0",
		"main.id[str]'/1 = v0")
	// What stands in casts and coercions is as it was.
	for _, q := range []api.Program{p, norm.Norm(p, false), norm.Norm(p, true)} {
		got := Convert(q)
		from, to := q.Funs[3].Body, got[3].Body
		from.Kids, to.Kids = nil, nil
		if !same(from, to) || got[3].Body.Kids[0].N != 7 || (len(to.Types) != 2 && len(to.Cos) != 1) {
			t.Errorf("%s\nhas become %s", whole(q.Funs[3]), whole(got[3]))
		}
	}
}
