package coerce

import (
	"slices"
	"testing"

	"gradus/api"
)

// spoil changes all that a coercion has in it, by its lists, also what lies behind their ends.
func spoil(c api.Co) {
	for i := range c.Tags[:cap(c.Tags)] {
		c.Tags[:cap(c.Tags)][i] = -99
	}
	for i := range c.Needs[:cap(c.Needs)] {
		c.Needs[:cap(c.Needs)][i] = api.Need{Name: "spoilt", Label: -99}
	}
	for i := range c.Names[:cap(c.Names)] {
		c.Names[:cap(c.Names)][i] = "spoilt"
	}
	for _, list := range [][]api.Co{c.Fields, c.Fun} {
		for _, one := range list {
			spoil(one)
		}
		for i := range list[:cap(list)] {
			list[:cap(list)][i] = api.Co{Tags: []int{-99}}
		}
	}
}

func spoilType(t api.Type) {
	for i := range t.Names {
		t.Names[i] = "spoilt"
	}
	for i := range t.Kids {
		spoilType(t.Kids[i])
		t.Kids[i] = api.Type{Kind: -99, Name: "spoilt"}
	}
}

func copyType(t api.Type) api.Type {
	t.Names, t.Kids = slices.Clone(t.Names), slices.Clone(t.Kids)
	for i, kid := range t.Kids {
		t.Kids[i] = copyType(kid)
	}
	return t
}

// someCos are normal, and have all lists, at several heights.
func someCos() []api.Co {
	list := cos("id", "<nbisrf:2>", "<a!2 b!3>", "<a=<n:2> b=<a!3 a=<n:2>>>", "<(<n:2> ~ <a!3>)>", "<a!2 b!3 a=<a!4 a=<n:2> (<n:2> ~ id)> b=<n:2> (<a!5 a=<n:2>> ~ <(id ~ <n:3>)>)>", "<r:2 a!2>", "<f:2 a=<n:3>>", "<rf:2>")
	c := chance(521288629)
	for range 60 {
		list = append(list, c.normalCo(4))
	}
	return list
}

// R3: what is handed in stays as it was, what is answered hangs on nothing that was handed in.
func TestComposeIsOwn(t *testing.T) {
	list := someCos()
	for _, a := range list {
		for _, b := range append(list, api.Co{}, co("<a=id>")) {
			ownA, ownB := copyCo(a), copyCo(b)
			c := Compose(ownA, ownB)
			if !alike(ownA, a) || !alike(ownB, b) {
				t.Fatalf("Compose has changed %s or %s", told(a), told(b))
			}
			kept := whole(c)
			spoil(ownA)
			spoil(ownB)
			if whole(c) != kept {
				t.Errorf("Compose(%s, %s) changes with what was handed in", told(a), told(b))
			}
			ownA, ownB = copyCo(a), copyCo(b)
			spoil(Compose(ownA, ownB))
			if !alike(ownA, a) || !alike(ownB, b) {
				t.Errorf("%s or %s changes with Compose of them", told(a), told(b))
			}
		}
	}
}

// R3: lists with room behind their ends: nothing is put there.
func TestRoomBehindLists(t *testing.T) {
	list := someCos()
	for _, a := range list {
		for _, b := range list {
			roomy := withRoom(a)
			Compose(roomy, b)
			Compose(b, roomy)
			May(roomy)
			Labels(roomy)
			holdRoom(t, roomy)
		}
	}
}

func withRoom(c api.Co) api.Co {
	c = copyCo(c)
	c.Tags = append(c.Tags, 99)[:len(c.Tags)]
	c.Needs = append(c.Needs, api.Need{Name: "room"})[:len(c.Needs)]
	c.Names = append(c.Names, "room")[:len(c.Names)]
	c.Fields, c.Fun = roomBehind(c.Fields), roomBehind(c.Fun)
	return c
}

func roomBehind(list []api.Co) []api.Co {
	for i := range list {
		list[i] = withRoom(list[i])
	}
	return append(list, api.Co{Tags: []int{99}})[:len(list)]
}

func holdRoom(t *testing.T, c api.Co) {
	t.Helper()
	if c.Tags[:7][6] != 99 || c.Needs[:len(c.Needs)+1][len(c.Needs)].Name != "room" || c.Names[:len(c.Names)+1][len(c.Names)] != "room" {
		t.Error("something is put behind a list")
	}
	for _, list := range [][]api.Co{c.Fields, c.Fun} {
		if last := list[:len(list)+1][len(list)]; len(last.Tags) != 1 || last.Tags[0] != 99 {
			t.Error("something is put behind a list of coercions")
		}
		for _, one := range list {
			holdRoom(t, one)
		}
	}
}

// R3: types stay as they were, and Make hangs on nothing of them.
func TestMakeIsOwn(t *testing.T) {
	list := smallTypes()
	for i, a := range list {
		for k := i % 5; k < len(list); k += 5 {
			b := list[k]
			ownA, ownB := copyType(a), copyType(b)
			c := Make(ownA, ownB, 2)
			if short(ownA) != short(a) || short(ownB) != short(b) {
				t.Fatalf("Make has changed %s or %s", short(a), short(b))
			}
			kept := whole(c)
			spoilType(ownA)
			spoilType(ownB)
			if whole(c) != kept {
				t.Errorf("Make(%s, %s) changes with what was handed in", short(a), short(b))
			}
			ownA, ownB = copyType(a), copyType(b)
			spoil(Make(ownA, ownB, 2))
			if short(ownA) != short(a) || short(ownB) != short(b) {
				t.Errorf("%s or %s changes with Make of them", short(a), short(b))
			}
		}
	}
}

// holdNoListTwice tells lists by where they begin.
func holdNoListTwice(t *testing.T, c api.Co) {
	t.Helper()
	tags, needs, names, within := map[*int]int{}, map[*api.Need]int{}, map[*string]int{}, map[*api.Co]int{}
	var look func(c api.Co)
	look = func(c api.Co) {
		for i := range c.Tags {
			tags[&c.Tags[i]]++
		}
		for i := range c.Needs {
			needs[&c.Needs[i]]++
		}
		for i := range c.Names {
			names[&c.Names[i]]++
		}
		for _, list := range [][]api.Co{c.Fields, c.Fun} {
			for i := range list {
				within[&list[i]]++
				look(list[i])
			}
		}
	}
	look(c)
	several := anyTwice(tags) || anyTwice(needs) || anyTwice(names) || anyTwice(within)
	if several {
		t.Errorf("a list stands twice in %s", told(c))
	}
}

func anyTwice[P comparable](met map[P]int) bool {
	for _, n := range met {
		if n > 1 {
			return true
		}
	}
	return false
}

// R3: what is shared within what is handed in is not shared in the answer.
func TestNoListTwice(t *testing.T) {
	inner := typ("{a: int -> int, b: null | int}")
	for _, in := range []api.Type{function(inner, inner), record("a b", inner, inner), union(nullType, record("a b", inner, inner), function(inner, inner)), braid(6, api.TFun, intType), braid(6, api.TRec, intType), typ("{a: int, b: int}"), typ("int -> int")} {
		holdNoListTwice(t, Make(in, anyType, 2))
		holdNoListTwice(t, Make(anyType, in, 2))
		holdNoListTwice(t, Make(in, function(record(""), in), 2))
	}
	holdNoListTwice(t, Make(braid(6, api.TFun, intType), braid(6, api.TFun, strType), 2))
	holdNoListTwice(t, Make(braid(6, api.TRec, intType), braid(6, api.TRec, strType), 2))
	for _, c := range append(someCos(), twice(5, co("<a!2 b!3 c=<n:4>>"), false), twice(5, co("<a!2 b!3 c=<n:4>>"), true)) {
		holdNoListTwice(t, Compose(c, c))
		holdNoListTwice(t, Compose(c, Id()))
		holdNoListTwice(t, Compose(Id(), c))
		holdNoListTwice(t, Compose(twice(2, co("<n:2>"), false), c))
	}
}

// R5: what was asked before, and changed since, plays no part.
func TestNothingIsKept(t *testing.T) {
	for range 3 {
		c := Make(anyType, typ("{a: int} | (int -> int)"), 2)
		holdCo(t, "Make, time and again", c, co("<nbis:2 a!2 a=<nbsrf:2> (id ~ <nbsrf:2>)>"))
		spoil(c)
		a, b := co("<a!2 a=<n:2> (id ~ <n:2>)>"), co("<b!3 b=<i:3>>")
		d := Compose(a, b)
		holdCo(t, "Compose, time and again", d, co("<a!2 b!3 a=<n:2> b=<i:3> (id ~ <n:2>)>"))
		spoil(d)
		l := Labels(a)
		if !slices.Equal(l, []int{2}) {
			t.Error(l)
		}
		l[0] = 5
	}
}

// readNormal is the chapter's word, line by line.
func readNormal(c api.Co) bool {
	ok := len(c.Tags) == 6 && len(c.Fields) == len(c.Names) && (len(c.Fun) == 0 || len(c.Fun) == 2)
	if !ok {
		return false
	}
	for i, need := range c.Needs {
		ok = ok && need.Label != 0 && !slices.ContainsFunc(c.Needs[:i], func(n api.Need) bool { return n.Name == need.Name })
	}
	sorted := slices.Sorted(slices.Values(c.Names))
	ok = ok && slices.Equal(sorted, c.Names) && len(slices.Compact(sorted)) == len(c.Names)
	for _, kid := range slices.Concat(c.Fields, c.Fun) {
		ok = ok && readNormal(kid)
	}
	for _, kid := range c.Fields {
		ok = ok && !alike(kid, co("id"))
	}
	if len(c.Fun) == 2 {
		ok = ok && !(alike(c.Fun[0], co("id")) && alike(c.Fun[1], co("id")))
	}
	return ok && (c.Tags[4] == 0 || len(c.Names) == 0) && (c.Tags[5] == 0 || len(c.Fun) == 0)
}

// anyCo is any coercion at all, most often one that is nearly normal.
func (c *chance) anyCo(height int) api.Co {
	d := c.normalCo(height)
	for range c.below(3) {
		at := &d
		for len(at.Fields)+len(at.Fun) > 0 && c.below(3) > 0 {
			if list := [][]api.Co{at.Fields, at.Fun}[c.below(2)]; len(list) > 0 {
				at = &list[c.below(len(list))]
			}
		}
		c.spoilOne(at)
	}
	return d
}

func (c *chance) spoilOne(d *api.Co) {
	switch c.below(9) {
	case 0:
		d.Tags = append(d.Tags, 0)
	case 1:
		d.Tags = d.Tags[:c.below(len(d.Tags)+1)]
	case 2:
		d.Needs = append(d.Needs, api.Need{Name: someNames[c.below(6)], Label: c.below(2)})
	case 3:
		d.Names = append(d.Names, someNames[c.below(6)])
		d.Fields = append(d.Fields, c.normalCo(1))
	case 4:
		d.Fields = d.Fields[:c.below(len(d.Fields)+1)]
	case 5:
		d.Fun = d.Fun[:c.below(len(d.Fun)+1)]
	case 6:
		d.Fun = append(d.Fun, c.normalCo(1))
	case 7:
		if len(d.Tags) > 5 {
			d.Tags[4+c.below(2)] = c.below(2)
		}
	case 8:
		if len(d.Fields) > 0 {
			d.Fields[c.below(len(d.Fields))] = Id()
		}
	}
}

// P1, P10.1, P10.3: any coercions at all.
func TestAnyCoercions(t *testing.T) {
	c := chance(1234567891)
	normal, others := 0, 0
	for range 15000 {
		a, b := c.anyCo(1+c.below(4)), c.anyCo(1+c.below(3))
		may := readNormal(a)
		if may {
			normal++
		} else {
			others++
		}
		before := whole(a)
		if May(a) != may {
			t.Errorf("May(%s) is not %v", told(a), may)
		}
		d := Compose(a, b)
		if both := may && readNormal(b); both != May(d) || !both && !alike(d, api.Co{}) {
			t.Errorf("Compose(%s, %s): %s", told(a), told(b), told(d))
		}
		if !Same(a, copyCo(a)) || Same(a, b) != alike(a, b) {
			t.Errorf("Same(%s, %s)", told(a), told(b))
		}
		if labels := Labels(a); Size(a) != countOf(a) || !slices.Equal(labels, gathered(a)) {
			t.Errorf("Size(%s) = %d, Labels %v", told(a), Size(a), labels)
		}
		if whole(a) != before {
			t.Fatalf("%s has become %s", before, whole(a))
		}
	}
	if normal < 3000 || others < 3000 {
		t.Errorf("%d are normal, %d are not", normal, others)
	}
}

func countOf(c api.Co) int {
	n := 1
	for _, kid := range slices.Concat(c.Fields, c.Fun) {
		n += countOf(kid)
	}
	return n
}

func gathered(c api.Co) []int {
	labels := slices.Clone(c.Tags)
	for _, need := range c.Needs {
		labels = append(labels, need.Label)
	}
	for _, kid := range slices.Concat(c.Fields, c.Fun) {
		labels = append(labels, gathered(kid)...)
	}
	slices.Sort(labels)
	return slices.DeleteFunc(slices.Compact(labels), func(label int) bool { return label == 0 })
}
