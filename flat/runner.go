package flat

import (
	"gradus/api"
	"gradus/word"
)

// runner is one run.
type runner struct {
	flats []api.Flat
	input []int // what is left of it
	fuel  int
	lines []string
	// waits are those that wait for others, the last one for what is being run. They stand here, and not on Go's stack,
	// since calls within one another may be as many as there is fuel.
	waits     []waiting
	room      int     // how many may wait
	values    []value // what the Kids of those that wait have come to
	coercions coercions
}

// turn is an expression that is to be run, with what is in scope. Without a core there is none.
type turn struct {
	core *api.Core
	vars []value
}

// waiting is an expression, some of whose Kids are still to be run, or a call of a coerced function, which applies
// answers to what that comes to.
type waiting struct {
	turn
	first   int // where in values those of its Kids begin
	answers *api.Co
}

func newRunner(l []api.Flat, input []int, fuel int) *runner {
	return &runner{flats: l, input: input, fuel: fuel, room: mostWaiting, coercions: newCoercions()}
}

// whole runs an expression to its end, turn by turn: each comes to another one, or, where there is none, to a value.
func (r *runner) whole(next turn) value {
	var v value
	for {
		switch {
		case next.core != nil:
			next, v = r.begin(next)
		case len(r.waits) > 0:
			next, v = r.goOn(v)
		default:
			return v
		}
	}
}

// begin comes to the first Kid, which is to be run ahead of its expression, or to the value of one without Kids.
func (r *runner) begin(t turn) (turn, value) {
	c := t.core
	switch {
	case len(c.Kids) > 0:
		r.wait(waiting{turn: t, first: len(r.values)})
		return turn{&c.Kids[0], t.vars}, nil
	case c.Kind == api.CRec:
		return turn{}, record{}
	}
	return turn{}, r.leaf(c, t.vars)
}

func (r *runner) leaf(c *api.Core, vars []value) value {
	switch c.Kind {
	case api.CInt:
		return c.N
	case api.CStr:
		return c.Text
	case api.CBool:
		return c.N == 1
	case api.CNull:
		return nil
	case api.CVar:
		return vars[c.N]
	case api.CGlobal:
		return function{body: &r.flats[c.N].Body}
	case api.CMake:
		return r.function(c, vars)
	case api.CRead:
		return r.read()
	}
	panic(end{how: api.EndStuck})
}

func (r *runner) read() value {
	if len(r.input) == 0 {
		panic(end{api.EndTrap, api.TrapInput})
	}
	n := r.input[0]
	r.input = r.input[1:]
	r.tell("read " + word.Show(n))
	return n
}

func (r *runner) tell(line string) {
	r.lines = append(r.lines, line)
}

func (r *runner) wait(w waiting) {
	if len(r.waits) == r.room {
		panic(end{how: api.EndMemory})
	}
	r.waits = append(r.waits, w)
}

// last is the last one that waits, which does so no longer.
func (r *runner) last() waiting {
	at := len(r.waits) - 1
	w := r.waits[at]
	r.waits[at] = waiting{} // what it had in scope may be let go
	r.waits = r.waits[:at]
	return w
}

// goOn goes on with the last one that waits, which has waited for this value.
func (r *runner) goOn(v value) (turn, value) {
	w := r.last()
	switch {
	case w.answers != nil:
		return turn{}, r.apply(w.answers, v)
	case w.core.Kind == api.CIf:
		return turn{branch(w.core, v), w.vars}, nil
	case w.core.Kind == api.CLet:
		// What may stand behind vars is needed no more: what had that in scope is over, and functions have copies.
		return turn{&w.core.Kids[1], append(w.vars, v)}, nil
	}
	r.values = append(r.values, v)
	if at := len(r.values) - w.first; at < len(w.core.Kids) {
		r.wait(w)
		return turn{&w.core.Kids[at], w.vars}, nil
	}
	kids := r.values[w.first:]
	r.values = r.values[:w.first]
	next, v := r.done(w.core, kids)
	clear(kids)
	return next, v
}

func branch(c *api.Core, test value) *api.Core {
	if test.(bool) {
		return &c.Kids[1]
	}
	return &c.Kids[2]
}
