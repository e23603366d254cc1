package coerce

import (
	"fmt"
	"slices"
	"strings"
	"testing"

	"gradus/api"
)

// flat is a second reading of the chapter: a normal coercion as what it says at each place within it. A place is the
// way there: a byte 'f' and a field's name, 't' for what is taken, 'a' for what is answered. Where nothing is said there
// is nothing, so that Id is empty, wherever it stands.
type flat map[place]said

// place has steps with line feeds behind them.
type place string

type said struct {
	labels [api.Tags]int
	needs  string // each a name, a line feed, a label, a line feed
}

func (f flat) say(at place, s said) {
	if s != (said{}) {
		f[at] = s
	}
}

func (s *said) need(name string, label int) { s.needs += fmt.Sprintf("%s\n%d\n", name, label) }

func (s *said) needsList() [][2]string {
	var list [][2]string
	words := strings.Split(s.needs, "\n")
	for i := 0; i+1 < len(words); i += 2 {
		list = append(list, [2]string{words[i], words[i+1]})
	}
	return list
}

func inField(at place, name string) place { return at + "f" + place(name) + "\n" }

// flatten is of a normal coercion.
func flatten(c api.Co) flat {
	f := flat{}
	var add func(c api.Co, at place)
	add = func(c api.Co, at place) {
		s := said{labels: [api.Tags]int(c.Tags)}
		for _, n := range c.Needs {
			s.need(n.Name, n.Label)
		}
		f.say(at, s)
		for i, name := range c.Names {
			add(c.Fields[i], inField(at, name))
		}
		if len(c.Fun) == 2 {
			add(c.Fun[0], at+"t\n")
			add(c.Fun[1], at+"a\n")
		}
	}
	add(c, "")
	return f
}

// readMake is P10.2 of normal types and labels that may be.
func readMake(a, b api.Type, label int) flat {
	f := flat{}
	f.cast(a, b, label, "")
	return f
}

func (f flat) cast(a, b api.Type, label int, at place) {
	if a.Kind == api.TAny && b.Kind == api.TAny {
		return
	}
	s := said{}
	froms, tos := partsByKind(a), partsByKind(b)
	for kind := api.TNull; kind <= api.TFun; kind++ {
		m, has := froms[kind]
		n, both := tos[kind]
		switch {
		case has && !both:
			s.labels[kind-1] = label
		case has && kind == api.TFun:
			f.cast(n.takes, m.takes, label^1, at+"t\n")
			f.cast(m.answers, n.answers, label, at+"a\n")
		case has && kind == api.TRec:
			for _, name := range n.names {
				kid, there := m.kids[name]
				if !there {
					s.need(name, label)
				}
				if there || m.open {
					f.cast(kid, n.kids[name], label, inField(at, name))
				}
			}
			for _, name := range m.names {
				if n.open {
					f.cast(m.kids[name], api.Type{}, label, inField(at, name))
				}
			}
		}
	}
	f.say(at, s)
}

type partRead struct {
	open           bool
	names          []string
	kids           map[string]api.Type // any, where there is none
	takes, answers api.Type
}

func partsByKind(t api.Type) map[int]partRead {
	parts := map[int]partRead{}
	if t.Kind == api.TAny {
		for kind := api.TNull; kind <= api.TFun; kind++ {
			parts[kind] = partRead{open: true}
		}
		return parts
	}
	list := []api.Type{t}
	if t.Kind == api.TUnion {
		list = t.Kids
	}
	for _, one := range list {
		p := partRead{names: one.Names, kids: map[string]api.Type{}}
		for i, name := range one.Names {
			p.kids[name] = one.Kids[i]
		}
		if one.Kind == api.TFun {
			p.takes, p.answers = one.Kids[0], one.Kids[1]
		}
		parts[one.Kind] = p
	}
	return parts
}

// readCompose is P10.3 of normal coercions: at each place the one comes first, or the other, by how often it is what is
// taken that one has gone into; nothing is left below what is blamed.
func readCompose(a, b flat) flat {
	all := flat{}
	for _, f := range []flat{a, b} {
		for at := range f {
			first, second := a[at], b[at]
			if at.turned() {
				first, second = second, first
			}
			all.say(at, behind(first, second))
		}
	}
	left := flat{}
	for at, s := range all {
		if !all.blamesAbove(at) {
			left[at] = s
		}
	}
	return left
}

func behind(first, second said) said {
	s := first
	for tag, label := range second.labels {
		if s.labels[tag] == 0 {
			s.labels[tag] = label
		}
	}
	if first.labels[api.TagRec] != 0 {
		return s
	}
	for _, need := range second.needsList() {
		if !slices.ContainsFunc(first.needsList(), func(n [2]string) bool { return n[0] == need[0] }) {
			s.needs += need[0] + "\n" + need[1] + "\n"
		}
	}
	return s
}

func (at place) steps() []string { return strings.SplitAfter(string(at), "\n") }

func (at place) turned() bool {
	turns := 0
	for _, step := range at.steps() {
		if step == "t\n" {
			turns++
		}
	}
	return turns%2 == 1
}

func (f flat) blamesAbove(at place) bool {
	above := place("")
	for _, step := range at.steps() {
		if step == "" {
			break
		}
		tag := api.TagFun
		if step[0] == 'f' {
			tag = api.TagRec
		}
		if f[above].labels[tag] != 0 {
			return true
		}
		above += place(step)
	}
	return false
}

func sameFlat(a, b flat) bool {
	if len(a) != len(b) {
		return false
	}
	for at, s := range a {
		if b[at] != s {
			return false
		}
	}
	return true
}

// chance is a row of numbers that is the same each time.
type chance uint64

func (c *chance) below(n int) int {
	*c ^= *c << 13
	*c ^= *c >> 7
	*c ^= *c << 17
	return int(uint64(*c) % uint64(n))
}

// someNames rise.
var someNames = []string{"", "Z", "a", "aa", "b", "é"}

func (c *chance) label() int { return []int{2, 3, 4, 5, -1, 1}[c.below(6)] }

func (c *chance) shuffled(list []string) []string {
	list = slices.Clone(list)
	for i := range list {
		k := i + c.below(len(list)-i)
		list[i], list[k] = list[k], list[i]
	}
	return list
}

// normalCo is at most so high.
func (c *chance) normalCo(height int) api.Co {
	d := api.Co{Tags: make([]int, 6)}
	for tag := range d.Tags {
		if c.below(4) == 0 {
			d.Tags[tag] = c.label()
		}
	}
	for _, name := range c.shuffled(someNames)[:max(0, c.below(6)-2)] {
		d.Needs = append(d.Needs, api.Need{Name: name, Label: c.label()})
	}
	if height <= 1 {
		return d
	}
	if d.Tags[api.TagRec] == 0 {
		for _, name := range someNames {
			if kid := c.normalCo(height - 1); c.below(3) == 0 && !isEmpty(kid) {
				d.Names, d.Fields = append(d.Names, name), append(d.Fields, kid)
			}
		}
	}
	if d.Tags[api.TagFun] == 0 && c.below(3) > 0 {
		fun := []api.Co{c.normalCo(height - 1), c.normalCo(height - 1)}
		fun[c.below(2)] = []api.Co{Id(), c.normalCo(height - 1)}[c.below(2)]
		if !isEmpty(fun[0]) || !isEmpty(fun[1]) {
			d.Fun = fun
		}
	}
	return d
}

func isEmpty(c api.Co) bool { return len(flatten(c)) == 0 }

// P10.1, P10.3, P10.4, P10.5: made-up coercions, held against the second reading.
func TestMadeUpCoercions(t *testing.T) {
	c := chance(88172645463325252)
	for range 4000 {
		x, y, z := c.normalCo(1+c.below(4)), c.normalCo(1+c.below(4)), c.normalCo(1+c.below(4))
		holdLaws(t, x, y, z)
		if f := flatten(Compose(x, y)); !sameFlat(f, readCompose(flatten(x), flatten(y))) {
			t.Errorf("Compose(%s, %s): %s", told(x), told(y), told(Compose(x, y)))
		}
		if got, want := Labels(x), labelsOf(flatten(x)); !slices.Equal(got, want) {
			t.Errorf("Labels(%s): %v, not %v", told(x), got, want)
		}
		if Same(x, y) != alike(x, y) || !Same(x, copyCo(x)) {
			t.Errorf("Same(%s, %s)", told(x), told(y))
		}
	}
}

func labelsOf(f flat) []int {
	var labels []int
	for _, s := range f {
		for _, label := range s.labels {
			if label != 0 {
				labels = append(labels, label)
			}
		}
		for _, need := range s.needsList() {
			labels = append(labels, number(need[1]))
		}
	}
	slices.Sort(labels)
	return slices.Compact(labels)
}
