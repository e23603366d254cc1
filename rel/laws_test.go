package rel

import (
	"slices"
	"testing"

	"gradus/api"
	"gradus/types"
)

// words is a part as the chapter's section Words has it.
type words struct {
	open           bool
	fields         map[string]api.Type
	takes, answers api.Type
}

func wordsOf(t api.Type) map[int]words {
	if t.Kind == api.TAny {
		return map[int]words{api.TagNull: {}, api.TagBool: {}, api.TagInt: {}, api.TagStr: {}, api.TagRec: {open: true}, api.TagFun: {}}
	}
	list := []api.Type{t}
	if t.Kind == api.TUnion {
		list = t.Kids
	}
	parts := map[int]words{}
	for _, one := range list {
		w := words{fields: map[string]api.Type{}}
		for i, name := range one.Names {
			w.fields[name] = one.Kids[i]
		}
		if one.Kind == api.TFun {
			w.takes, w.answers = one.Kids[0], one.Kids[1]
		}
		parts[one.Kind-1] = w
	}
	return parts
}

func bothAny(a, b api.Type) bool { return a.Kind == api.TAny && b.Kind == api.TAny }

func eitherAny(a, b api.Type) bool { return a.Kind == api.TAny || b.Kind == api.TAny }

// readSub is P6.1, and with lax P6.2.
func readSub(a, b api.Type, lax bool) bool {
	if eitherAny(a, b) {
		return lax || bothAny(a, b)
	}
	others := wordsOf(b)
	for tag, m := range wordsOf(a) {
		n, ok := others[tag]
		if !ok {
			return false
		}
		for name, kid := range n.fields {
			own, ok := m.fields[name]
			if !ok || !readSub(own, kid, lax) {
				return false
			}
		}
		if tag == api.TagFun && !(readSub(n.takes, m.takes, lax) && readSub(m.answers, n.answers, lax)) {
			return false
		}
	}
	return true
}

// loosened is a with any in each place where b has it, as far as they are alike: that is b, if a is Naive of b.
func loosened(a, b api.Type) api.Type {
	if b.Kind == api.TAny {
		return b
	}
	a.Kids = slices.Clone(a.Kids)
	if len(a.Kids) != len(b.Kids) {
		return a
	}
	for i, kid := range a.Kids {
		a.Kids[i] = loosened(kid, b.Kids[i])
	}
	return a
}

func readNaive(a, b api.Type) bool { return text(loosened(a, b)) == text(b) }

// blames is what chapter 10's Make has labels for: by P10.5 a cast that is not Pos can blame its own side, and one that
// is not Neg the other one.
func blames(a, b api.Type) (own, other bool) {
	if bothAny(a, b) {
		return false, false
	}
	within := func(a, b api.Type) {
		x, y := blames(a, b)
		own, other = own || x, other || y
	}
	others := wordsOf(b)
	for tag, m := range wordsOf(a) {
		n, ok := others[tag]
		switch {
		case !ok:
			own = true
		case tag == api.TagFun:
			y, x := blames(n.takes, m.takes)
			own, other = own || x, other || y
			within(m.answers, n.answers)
		case tag == api.TagRec && n.open:
			for _, kid := range m.fields {
				within(kid, anyType)
			}
		case tag == api.TagRec:
			for name, kid := range n.fields {
				ownKid, ok := m.fields[name]
				own = own || !ok
				if ok || m.open {
					within(ownKid, kid)
				}
			}
		}
	}
	return own, other
}

// readJoin is P6.6 of normal types.
func readJoin(a, b api.Type) api.Type {
	switch {
	case readSub(a, b, false):
		return b
	case readSub(b, a, false):
		return a
	case eitherAny(a, b):
		return anyType
	}
	u := leaf(api.TUnion)
	for tag := range api.Tags {
		m, inA := types.Member(a, tag)
		n, inB := types.Member(b, tag)
		switch {
		case inA && inB && readSub(m, n, false):
			u.Kids = append(u.Kids, n)
		case inA && inB && readSub(n, m, false):
			u.Kids = append(u.Kids, m)
		case inA && inB:
			return anyType
		case inA:
			u.Kids = append(u.Kids, m)
		case inB:
			u.Kids = append(u.Kids, n)
		}
	}
	kept, e := types.Norm(u)
	if e != api.OK {
		return anyType
	}
	return kept
}

// readNarrow is P6.7 of normal types and tags.
func readNarrow(t api.Type, tag int) (api.Type, api.Type) {
	if t.Kind == api.TAny {
		return []api.Type{leaf(api.TNull), leaf(api.TBool), leaf(api.TInt), leaf(api.TStr), leaf(api.TRec), anyType}[tag], anyType
	}
	with, without := t, t
	if t.Kind == api.TUnion {
		at := slices.IndexFunc(t.Kids, func(kid api.Type) bool { return kid.Kind == tag+1 })
		if at >= 0 {
			with = t.Kids[at]
			without = union(slices.Delete(slices.Clone(t.Kids), at, at+1)...)
			if len(without.Kids) == 1 {
				without = without.Kids[0]
			}
		}
	}
	return with, without
}

// holdReading holds all relations of two normal types against the readings.
func holdReading(t *testing.T, a, b api.Type) {
	t.Helper()
	own, other := blames(a, b)
	for _, c := range []struct {
		name      string
		got, want bool
	}{
		{"Sub", Sub(a, b), readSub(a, b, false)},
		{"Fits", Fits(a, b), readSub(a, b, true)},
		{"Naive", Naive(a, b), readNaive(a, b)},
		{"Pos", Pos(a, b), !own},
		{"Neg", Neg(a, b), !other},
	} {
		if c.got != c.want {
			t.Errorf("%s(%s, %s) = %v", c.name, short(a), short(b), c.got)
		}
	}
	holdJoin(t, a, b, readJoin(a, b))
}

// smallTypes are many types, each once, all kinds within one another.
func smallTypes() []api.Type {
	leaves := []api.Type{anyType, nullType, intType}
	inner := append(slices.Clone(leaves), typ("{}"), typ("null | int"), typ("{a: any}"), typ("{a: int}"), typ("any -> any"), typ("any -> int"), typ("int -> any"), typ("int -> int"))
	list := append(slices.Clone(inner), typ("bool"), typ("str"), typ("ALL"))
	add := func(t api.Type) {
		if n, e := types.Norm(t); e == api.OK {
			list = append(list, n)
		}
	}
	for _, x := range inner {
		add(record("a", x))
		add(record("b", x))
		add(union(leaf(api.TStr), x))
		add(union(nullType, record("a", x)))
		for _, y := range leaves {
			add(record("a b", x, y))
			add(function(x, y))
			add(function(y, x))
			add(union(nullType, function(x, y)))
			add(union(record("a", y), function(y, x)))
		}
	}
	for _, x := range []string{"{a: {a: int, b: int}}", "((int -> int) -> int) -> int", "{a: null | {a: int}}", "null | bool | int | str", "{a: ALL}", "ALL -> int", "int -> ALL",
		"null | bool | int | str | {} | (int -> any)", "null | bool | int | str | {} | (any -> int)", "null | bool | int | str | {a: any} | (any -> any)"} {
		add(typ(x))
	}
	slices.SortFunc(list, func(a, b api.Type) int { return slices.Compare([]byte(text(a)), []byte(text(b))) })
	return slices.CompactFunc(list, func(a, b api.Type) bool { return text(a) == text(b) })
}

// P6.1 to P6.8: small types, each with each and three with one another.
func TestSmallTypes(t *testing.T) {
	list := smallTypes()
	sub, naive := table(list, Sub), table(list, Naive)
	fits := table(list, Fits)
	for i, a := range list {
		if !sub[i][i] || !fits[i][i] || !naive[i][i] || !Pos(a, a) || !Neg(a, a) {
			t.Errorf("%s, and itself: %q", short(a), stands(a, a))
		}
		for k, b := range list {
			holdReading(t, a, b)
			if sub[i][k] && !fits[i][k] {
				t.Errorf("%s, %s: Sub, and does not fit", short(a), short(b))
			}
			if naive[i][k] && naive[k][i] && !types.Same(a, b) {
				t.Errorf("%s, %s: Naive of one another", short(a), short(b))
			}
			holdBothSubOfJoin(t, a, b)
		}
		for tag := range api.Tags {
			with, without := readNarrow(a, tag)
			holdNarrow(t, a, tag, with, without)
		}
	}
	holdGoesOn(t, "Sub", list, sub)
	holdGoesOn(t, "Naive", list, naive)
	if len(list) < 150 {
		t.Errorf("just %d types", len(list))
	}
}

func table(list []api.Type, holds func(a, b api.Type) bool) [][]bool {
	rows := make([][]bool, len(list))
	for i, a := range list {
		for _, b := range list {
			rows[i] = append(rows[i], holds(a, b))
		}
	}
	return rows
}

func holdBothSubOfJoin(t *testing.T, a, b api.Type) {
	t.Helper()
	j := Join(a, b)
	if j.Kind != api.TAny && (!Sub(a, j) || !Sub(b, j)) {
		t.Errorf("Join(%s, %s) = %s, of which one is not Sub", short(a), short(b), short(j))
	}
}

func holdGoesOn(t *testing.T, name string, list []api.Type, rows [][]bool) {
	t.Helper()
	steps := 0
	for i := range rows {
		for k := range rows {
			if !rows[i][k] {
				continue
			}
			for l := range rows {
				if rows[k][l] && !rows[i][l] {
					t.Errorf("%s goes from %s to %s to %s, and not on", name, short(list[i]), short(list[k]), short(list[l]))
				}
				if rows[k][l] && i != k && k != l {
					steps++
				}
			}
		}
	}
	if steps < 1000 {
		t.Errorf("%s: just %d of three with one another", name, steps)
	}
}

type chance uint64

func (c *chance) below(n int) int {
	*c ^= *c << 13
	*c ^= *c >> 7
	*c ^= *c << 17
	return int(uint64(*c) % uint64(n))
}

// normalOf is a normal type that is at most so high.
func (c *chance) normalOf(height int) api.Type {
	if height <= 1 {
		return leaf(c.below(5))
	}
	switch c.below(8) {
	case 0, 1, 2:
		return c.recordOf(height)
	case 3, 4, 5:
		return function(c.normalOf(height-1), c.normalOf(height-1))
	case 6:
		u := leaf(api.TUnion)
		for kind := api.TNull; kind <= api.TFun; kind++ {
			if c.below(2) == 0 {
				u.Kids = append(u.Kids, c.ofKind(kind, height-1))
			}
		}
		if len(u.Kids) >= 2 {
			return u
		}
	}
	return leaf(c.below(5))
}

func (c *chance) ofKind(kind, height int) api.Type {
	switch kind {
	case api.TRec:
		return c.recordOf(height)
	case api.TFun:
		return function(c.normalOf(height-1), c.normalOf(height-1))
	}
	return leaf(kind)
}

func (c *chance) recordOf(height int) api.Type {
	r := leaf(api.TRec)
	for _, name := range []string{"a", "aa", "b", "z"} {
		if c.below(2) == 0 {
			r.Names = append(r.Names, name)
			r.Kids = append(r.Kids, c.normalOf(height-1))
		}
	}
	return r
}

// near is a type that is nearly the one that is handed in.
func (c *chance) near(t api.Type) api.Type {
	t = copyAll(t)
	switch c.below(12) {
	case 0:
		return anyType
	case 1:
		return c.normalOf(2)
	case 2:
		if n, e := types.Norm(union(t, leaf(1+c.below(4)))); e == api.OK {
			return n
		}
	case 3:
		if t.Kind == api.TUnion {
			return t.Kids[c.below(len(t.Kids))]
		}
	case 4, 5:
		if t.Kind == api.TRec && len(t.Names) > 0 {
			at := c.below(len(t.Names))
			t.Names, t.Kids = slices.Delete(t.Names, at, at+1), slices.Delete(t.Kids, at, at+1)
		}
	}
	for i := range t.Kids {
		if t.Kind != api.TUnion && c.below(3) == 0 {
			t.Kids[i] = c.near(t.Kids[i])
		}
		if t.Kind == api.TUnion && c.below(2) == 0 {
			if kid := c.near(t.Kids[i]); kid.Kind == t.Kids[i].Kind {
				t.Kids[i] = kid
			}
		}
	}
	return t
}

// P6.1 to P6.8: made-up types and such that are near them.
func TestMadeUpTypes(t *testing.T) {
	c := chance(88172645463325252)
	held := map[string]int{}
	for range 12000 {
		a := c.normalOf(2 + c.below(4))
		b := c.near(a)
		if c.below(2) == 0 {
			a, b = b, a
		}
		holdReading(t, a, b)
		holdBothSubOfJoin(t, a, b)
		held[stands(a, b)]++
		third := c.near(b)
		if Sub(a, b) && Sub(b, third) && !Sub(a, third) || Naive(a, b) && Naive(b, third) && !Naive(a, third) {
			t.Errorf("%s, %s, %s: does not go on", short(a), short(b), short(third))
		}
		tag := c.below(api.Tags)
		with, without := readNarrow(a, tag)
		holdNarrow(t, a, tag, with, without)
	}
	for _, words := range []string{inAll, loosens, "sub fits pos neg", "fits neg", "fits naive pos", "fits pos neg", "fits pos", "fits", "pos", "neg", inNone} {
		if held[words] == 0 {
			t.Errorf("none that are %q: %v", words, held)
		}
	}
}
