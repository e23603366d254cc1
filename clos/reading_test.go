package clos

import (
	"reflect"
	"slices"
	"testing"

	"gradus/api"
)

// copyAll is a value with lists of its own throughout.
func copyAll[T any](v T) T {
	return copyValue(reflect.ValueOf(v)).Interface().(T)
}

func copyValue(v reflect.Value) reflect.Value {
	out := reflect.New(v.Type()).Elem()
	switch v.Kind() {
	case reflect.Struct:
		for i := range v.NumField() {
			out.Field(i).Set(copyValue(v.Field(i)))
		}
	case reflect.Slice:
		if !v.IsNil() {
			out.Set(reflect.MakeSlice(v.Type(), v.Len(), v.Len()))
		}
		for i := range v.Len() {
			out.Index(i).Set(copyValue(v.Index(i)))
		}
	default:
		out.Set(v)
	}
	return out
}

// A second reading of the chapter: each variable first has a mark of its own, which no other one of the program has;
// functions are taken out with their marks; what each captures is told by the marks that its body has and does not
// bring; at last each mark becomes the place that it has in a list of all that are in scope.

// firstMark is above all numbers that marked cores have else.
const firstMark = 1 << 40

type marker struct{ next int }

// mark writes marks over the numbers of variables: of a function's body the mark of what it takes stands in Ints, of a
// CLet that of what it brings.
func (m *marker) mark(c *api.Core, in []int) {
	bring := func() []int {
		m.next++
		c.Ints = []int{m.next}
		return append(slices.Clone(in), m.next)
	}
	switch c.Kind {
	case api.CVar:
		c.N = in[c.N]
	case api.CFn:
		m.mark(&c.Kids[0], bring())
	case api.CLet:
		m.mark(&c.Kids[0], in)
		m.mark(&c.Kids[1], bring())
	default:
		for i := range c.Kids {
			m.mark(&c.Kids[i], in)
		}
	}
}

type marked struct {
	name  string
	caps  []int
	takes int
	body  api.Core
}

// free are the marks that a body has and does not bring, each as often as it has it.
func free(c *api.Core) []int {
	var has, brings []int
	each(c, func(c *api.Core) {
		switch c.Kind {
		case api.CVar:
			has = append(has, c.N)
		case api.CFn, api.CLet:
			brings = append(brings, c.Ints[0])
		}
	})
	return slices.DeleteFunc(has, func(n int) bool { return slices.Contains(brings, n) })
}

// read is the second reading.
func read(p api.Program) []api.Flat {
	p = copyAll(p)
	m := marker{firstMark}
	var l []marked
	for _, f := range p.Funs {
		m.next++
		takes := m.next
		m.mark(&f.Body, []int{takes})
		l = append(l, marked{f.Name, nil, takes, f.Body})
	}
	var out []api.Flat
	for i := 0; i < len(l); i++ {
		f := l[i]
		l = append(l, readOut(f.name+"'", &f.body, append(slices.Clone(f.caps), f.takes), len(l))...)
		out = append(out, api.Flat{Name: f.name, Caps: len(f.caps), Body: f.body})
	}
	return out
}

// readOut takes the functions out of a core, and puts places for marks. It hands on those that it has met.
func readOut(name string, c *api.Core, in []int, number int) []marked {
	var met []marked
	switch c.Kind {
	case api.CVar:
		c.N = slices.Index(in, c.N)
	case api.CFn:
		f := marked{name: name, takes: c.Ints[0], body: c.Kids[0]}
		var places []int
		for at, mark := range in {
			if slices.Contains(free(c), mark) {
				f.caps, places = append(f.caps, mark), append(places, at)
			}
		}
		*c = api.Core{Kind: api.CMake, N: number, Ints: places}
		return []marked{f}
	case api.CLet:
		met = readOut(name, &c.Kids[0], in, number)
		met = append(met, readOut(name, &c.Kids[1], append(slices.Clone(in), c.Ints[0]), number+len(met))...)
		c.Ints = nil
	default:
		for i := range c.Kids {
			met = append(met, readOut(name, &c.Kids[i], in, number+len(met))...)
		}
	}
	return met
}

// nested puts flat functions within one another again, as far as a function has them: a variable has the number that
// `in` tells of it, and there are as many in scope.
func nested(l []api.Flat, c api.Core, in []int, scope int) api.Core {
	c = copyAll(c)
	switch c.Kind {
	case api.CVar:
		c.N = in[c.N]
	case api.CMake:
		var around []int
		for _, v := range c.Ints {
			around = append(around, in[v])
		}
		return fn(nested(l, l[c.N].Body, append(around, scope), scope+1))
	case api.CLet:
		c.Kids[0] = nested(l, c.Kids[0], in, scope)
		c.Kids[1] = nested(l, c.Kids[1], append(slices.Clone(in), scope), scope+1)
	default:
		for i, kid := range c.Kids {
			c.Kids[i] = nested(l, kid, in, scope)
		}
	}
	return c
}

// holdAll holds what becomes of a program against the second reading, against the program itself, with its functions put
// within one another again, and against what P13.4 and P13.2 say of it. It hands on what becomes of it.
func holdAll(t *testing.T, p api.Program) []api.Flat {
	t.Helper()
	before := copyAll(p)
	l := Convert(p)
	if !reflect.DeepEqual(p, before) {
		t.Fatalf("%s\nhas become %s", whole(before), whole(p))
	}
	if want := read(p); !same(l, want) {
		t.Fatalf("%s\ngot  %q\nwant %q", whole(p), short(l), short(want))
	}
	for i, f := range p.Funs {
		if got := nested(l, l[i].Body, []int{0}, 1); !same(got, f.Body) || l[i].Name != f.Name || l[i].Caps != 0 {
			t.Fatalf("%s\nis %s once it is nested again", whole(f), whole(got))
		}
	}
	next := len(p.Funs)
	for _, f := range l {
		used := map[int]bool{}
		holdScope(t, l, &f.Body, f.Caps+1, used, func(c *api.Core) {
			if c.N != next || l[c.N].Name != f.Name+"'" {
				t.Fatalf("%q: of %s there is %s, where the function %d is the next one", short(l), f.Name, whole(*c), next)
			}
			next++
		})
		for v := range f.Caps {
			if !used[v] {
				t.Fatalf("%q: %s captures %d, and has no use for it", short(l), f.Name, v)
			}
		}
	}
	if next != len(l) {
		t.Fatalf("%q: just %d are made", short(l), next)
	}
	return l
}

// holdScope goes through a body, from the outside in.
func holdScope(t *testing.T, l []api.Flat, c *api.Core, scope int, used map[int]bool, made func(*api.Core)) {
	t.Helper()
	has := func(v int) {
		if v < 0 || v >= scope {
			t.Fatalf("%q: %d are in scope at %s", short(l), scope, whole(*c))
		}
		used[v] = true
	}
	switch c.Kind {
	case api.CFn:
		t.Fatalf("%q: there is still %s", short(l), whole(*c))
	case api.CVar:
		has(c.N)
	case api.CMake:
		made(c)
		if len(c.Ints) != l[c.N].Caps || !same(*c, makes(c.N, c.Ints...)) {
			t.Fatalf("%q: %s", short(l), whole(*c))
		}
		for i, v := range c.Ints {
			has(v)
			if i > 0 && v <= c.Ints[i-1] {
				t.Fatalf("%q: %s does not rise", short(l), whole(*c))
			}
		}
	}
	for i := range c.Kids {
		more := 0
		if c.Kind == api.CLet && i == 1 {
			more = 1
		}
		holdScope(t, l, &c.Kids[i], scope+more, used, made)
	}
}
