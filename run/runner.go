package run

import (
	"gradus/api"
	"gradus/word"
)

// runner is one run.
type runner struct {
	funs  []api.Fun
	input []int // what is left of it
	fuel  int
	lines []string
	// rest is what is still to be done, the last one first, each with what the one ahead of it came to. It stands here,
	// and not on Go's stack, since calls within one another may be as many as there is fuel.
	rest      []func(value) value
	room      int // how much may be in rest
	coercions coercions
}

func newRunner(funs []api.Fun, input []int, fuel int) *runner {
	return &runner{funs: funs, input: input, fuel: fuel, room: mostRest, coercions: newCoercions()}
}

// whole runs an expression to its end.
func (r *runner) whole(c *api.Core, s *scope) value {
	v := r.begin(c, s)
	for len(r.rest) > 0 {
		last := len(r.rest) - 1
		next := r.rest[last]
		r.rest[last] = nil // what it had in scope may be let go
		r.rest = r.rest[:last]
		v = next(v)
	}
	return v
}

func (r *runner) then(next func(value) value) {
	if len(r.rest) == r.room {
		panic(end{how: api.EndMemory})
	}
	r.rest = append(r.rest, next)
}

func (r *runner) tell(line string) {
	r.lines = append(r.lines, line)
}

func (r *runner) print(v value) value {
	r.tell("print " + shown(v))
	return null{}
}

func (r *runner) read() value {
	if len(r.input) == 0 {
		panic(trap(api.TrapInput))
	}
	n := r.input[0]
	r.input = r.input[1:]
	r.tell("read " + word.Show(n))
	return number(n)
}
