package clos

import (
	"maps"
	"slices"

	"gradus/api"
)

// mark stands behind the name of the function that one stands in.
const mark = "'"

// function is one of those that become flat. Variables bear here the numbers that they had: those in scope where a
// function stands have the same ones within it.
type function struct {
	name   string
	body   *api.Core
	takes  int         // the number of what it takes: those below are captured
	caps   []int       // which it captures, rising
	within []*function // those that stand in it, in the order in which they are met
	bytes  int         // of its name, which is not known ahead of its turn
	left   *room       // for the whole answer
}

// lookThrough is the functions of a program, with those within found, and what they capture.
func lookThrough(funs []api.Fun, left *room) []*function {
	var list []*function
	for i := range funs {
		f := &function{name: funs[i].Name, body: &funs[i].Body, bytes: len(funs[i].Name), left: left}
		f.find()
		list = append(list, f)
	}
	return list
}

// find finds those within, and what the function captures.
func (f *function) find() {
	captured := map[int]struct{}{}
	f.look(f.body, f.takes+1, captured)
	f.caps = slices.Sorted(maps.Keys(captured))
	f.left.take(flatBytes + f.bytes + len(f.caps)*numberBytes)
}

// look gathers what a core has of the variables around the function. The scope is how many variables there are.
func (f *function) look(c *api.Core, scope int, captured map[int]struct{}) {
	if isFunction(c) {
		for _, v := range f.meet(&c.Kids[0], scope) {
			f.gather(v, captured)
		}
		return
	}
	if c.Kind == api.CVar {
		f.gather(c.N, captured)
	}
	for i := range c.Kids {
		f.look(&c.Kids[i], scope+brought(c, i), captured)
	}
}

// meet is what a function within captures. Where there is no room for that, it is not handed on: there is no answer.
func (f *function) meet(body *api.Core, scope int) []int {
	in := &function{body: body, takes: scope, bytes: f.bytes + len(mark), left: f.left}
	f.within = append(f.within, in)
	in.find()
	if *f.left < 0 {
		return nil
	}
	return in.caps
}

// gather leaves out the function's own variables, and numbers that no variable has.
func (f *function) gather(variable int, captured map[int]struct{}) {
	if variable >= 0 && variable < f.takes {
		captured[variable] = struct{}{}
	}
}

// place is the number that a variable has in the flat function.
func (f *function) place(variable int) int {
	if variable >= f.takes {
		return variable - f.takes + len(f.caps)
	}
	if at, found := slices.BinarySearch(f.caps, variable); found {
		return at
	}
	return variable
}

// isFunction is false of a function that lacks its body, or has two, too: such ones stay as they are.
func isFunction(c *api.Core) bool {
	return c.Kind == api.CFn && len(c.Kids) == 1
}

// brought is how many variables more are in scope in a Kid.
func brought(c *api.Core, kid int) int {
	if c.Kind == api.CLet && kid == 1 {
		return 1
	}
	return 0
}
