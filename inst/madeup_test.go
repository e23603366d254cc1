package inst

import (
	"fmt"
	"slices"
	"testing"

	"gradus/api"
	"gradus/rel"
	"gradus/types"
)

// chance is a row of numbers that is the same each time.
type chance uint64

func (c *chance) below(n int) int {
	*c ^= *c << 13
	*c ^= *c >> 7
	*c ^= *c << 17
	return int(uint64(*c)>>11) % n
}

var madeNames = []string{"A", "B", "C", "D"}

// typeOf is written by chance: with variables, and now and then with something wrong in it.
func (c *chance) typeOf(height int, vars bool) api.Type {
	t := c.rightType(height, vars)
	if c.below(12) == 0 {
		c.spoilOne(&t)
	}
	return t
}

func (c *chance) rightType(height int, vars bool) api.Type {
	if vars && c.below(3) == 0 {
		return variable(madeNames[c.below(len(madeNames)-c.below(2))])
	}
	if height <= 1 {
		return leaf([]int{api.TAny, api.TNull, api.TBool, api.TInt, api.TStr, api.TInt}[c.below(6)])
	}
	switch c.below(4) {
	case 0:
		return function(c.typeOf(height-1, vars), c.typeOf(height-1, vars))
	case 1:
		u := union()
		for range 1 + c.below(3) {
			u.Kids = append(u.Kids, c.typeOf(height-1, vars))
		}
		return u
	case 2:
		return c.rightType(1, vars)
	}
	r := record("")
	for _, name := range []string{"c", "a", "b"}[c.below(3):] {
		r.Names = append(r.Names, name)
		r.Kids = append(r.Kids, c.typeOf(height-1, vars))
	}
	return r
}

func (c *chance) spoilOne(t *api.Type) {
	switch c.below(5) {
	case 0:
		t.Kind = c.below(12) - 2
	case 1:
		t.Name = madeNames[c.below(2)]
	case 2:
		t.Names = append(t.Names, "x")
	case 3:
		t.Kids = append(t.Kids, c.rightType(2, true))
	case 4:
		if len(t.Kids) > 0 {
			t.Kids = t.Kids[:len(t.Kids)-1]
		}
	}
}

// normalOf is a normal type.
func (c *chance) normalOf(height int) api.Type {
	for {
		if t, e := types.Norm(c.typeOf(height, false)); e == api.OK {
			return t
		}
	}
}

// within is all types in a type, itself the first.
func within(t api.Type) []api.Type {
	l := []api.Type{t}
	for _, kid := range t.Kids {
		l = append(l, within(kid)...)
	}
	return l
}

// readResolve is a second reading of P8.1: rule by rule, with lists gone through in the place of maps.
func readResolve(t api.Type, vars []string, with []api.Type) (api.Type, api.Errno) {
	if len(vars) != len(with) {
		return api.Type{}, api.ErrArg
	}
	all := within(t)
	if len(all) > 200 || types.Height(t) > 16 {
		return api.Type{}, api.ErrType
	}
	for _, x := range all {
		if x.Kind == api.TVar && (len(x.Names) > 0 || len(x.Kids) > 0 || !slices.Contains(vars, x.Name)) {
			return api.Type{}, api.ErrType
		}
	}
	return types.Norm(readPlaces(copyAll(t), vars, with))
}

func readPlaces(t api.Type, vars []string, with []api.Type) api.Type {
	if t.Kind == api.TVar {
		return copyAll(with[slices.Index(vars, t.Name)])
	}
	for i, kid := range t.Kids {
		t.Kids[i] = readPlaces(kid, vars, with)
	}
	return t
}

func isNormal(t api.Type) bool {
	kept, e := types.Norm(t)
	return e == api.OK && types.Same(kept, t)
}

// readBind is a second reading of P8.2, of types that are within the limits.
func readBind(vars []api.Var, l []api.Type) api.Errno {
	if len(vars) != len(l) {
		return api.ErrInst
	}
	for i, v := range vars {
		var names []string
		for _, ahead := range vars[:i] {
			names = append(names, ahead.Name)
		}
		bound, e := readResolve(v.Bound, names, l[:i])
		if !isNormal(l[i]) || v.Bound.Kind != api.TAny && (e != api.OK || !rel.Sub(l[i], bound)) {
			return api.ErrInst
		}
	}
	return api.OK
}

// P8.1, P1
func TestMadeUpResolve(t *testing.T) {
	c := chance(88172645463325252)
	told := map[string]int{}
	for range 60000 {
		in := c.typeOf(1+c.below(4), true)
		var vars []string
		var with []api.Type
		for range c.below(6) {
			vars = append(vars, madeNames[c.below(len(madeNames))])
			with = append(with, c.typeOf(1+c.below(3), c.below(8) == 0))
		}
		if c.below(20) == 0 && len(with) > 0 {
			with = with[1:]
		}
		want, wantE := readResolve(in, vars, with)
		holdResolve(t, in, vars, with, want, wantE)
		told[fmt.Sprintf("error %d", wantE)]++
		if wantE == api.OK && slices.ContainsFunc(within(in), func(x api.Type) bool { return x.Kind == api.TVar }) {
			told["with variables"]++
		}
		if t.Failed() {
			return
		}
	}
	for _, what := range []string{"error 0", "error 1", "error 9", "with variables"} {
		if told[what] < 1000 {
			t.Errorf("%s: %d times alone", what, told[what])
		}
	}
}

// P8.2, P1
func TestMadeUpBind(t *testing.T) {
	c := chance(88172645463325252)
	told := map[string]int{}
	for range 100000 {
		var vars []api.Var
		var l []api.Type
		for i := range c.below(4) {
			v := api.Var{Name: madeNames[(i+c.below(8)/7)%len(madeNames)]}
			x := c.normalOf(1 + c.below(3))
			switch c.below(6) {
			case 0:
				v.Bound = x
			case 1:
				v.Bound = union(nullType, x)
			case 2:
				v.Bound = c.typeOf(1+c.below(3), true)
			case 3:
				v.Bound = variable(madeNames[c.below(i+1)])
			}
			if c.below(3) == 0 && i > 0 {
				x = copyAll(l[c.below(i)])
			}
			if c.below(20) == 0 {
				c.spoilOne(&x)
			}
			vars, l = append(vars, v), append(l, x)
		}
		if c.below(30) == 0 {
			l = append(l, intType)
		}
		want := readBind(vars, l)
		holdBind(t, vars, l, want)
		told[fmt.Sprintf("error %d", want)]++
		if want == api.OK && slices.ContainsFunc(vars, func(v api.Var) bool { return v.Bound.Kind == api.TVar }) {
			told["bounded by one ahead"]++
		}
		if t.Failed() {
			return
		}
	}
	for _, what := range []string{"error 0", "error 18", "bounded by one ahead"} {
		if told[what] < 1000 {
			t.Errorf("%s: %d times alone", what, told[what])
		}
	}
}

// P8.3, P8.4, P1: tables held against a list that is gone through.
func TestMadeUpTables(t *testing.T) {
	c := chance(88172645463325252)
	told := map[string]int{}
	for range 1500 {
		most := c.below(30) - 2
		x := New(most)
		var want []api.Instance
		for range 60 {
			i := instance(c.below(2), c.below(2))
			for range c.below(3) {
				i.Types = append(i.Types, c.normalOf(1+c.below(2)))
			}
			if len(i.Types) > 0 && c.below(20) == 0 {
				c.spoilOne(&i.Types[c.below(len(i.Types))])
			}
			n, e := readAdd(&want, most, i)
			holdAdd(t, x, i, n, e)
			told[fmt.Sprintf("error %d", e)]++
			if e == api.OK && n < len(want)-1 {
				told["again"]++
			}
		}
		holdList(t, x, want)
		if t.Failed() {
			return
		}
	}
	for _, what := range []string{"error 0", "error 9", "error 19", "again"} {
		if told[what] < 1000 {
			t.Errorf("%s: %d times alone", what, told[what])
		}
	}
}

// readAdd is a second reading of P8.3, of types that are within the limits.
func readAdd(l *[]api.Instance, most int, i api.Instance) (int, api.Errno) {
	for _, t := range i.Types {
		if !isNormal(t) {
			return 0, api.ErrType
		}
	}
	for n, x := range *l {
		if x.Module == i.Module && x.Decl == i.Decl && slices.EqualFunc(x.Types, i.Types, types.Same) {
			return n, api.OK
		}
	}
	if len(*l) >= most {
		return 0, api.ErrMany
	}
	*l = append(*l, i)
	return len(*l) - 1, api.OK
}
