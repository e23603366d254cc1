package bytes

import (
	"gradus/api"
	"gradus/word"
)

// reader has a method for each sort of thing that bytes are made of. It gives up by a panic with the Errno.
type reader struct {
	rest []byte
}

func giveUp() {
	panic(api.ErrForm)
}

// code's calls come in the order in which the parts stand in the bytes.
func (r *reader) code() api.Code {
	return api.Code{
		Merge:  r.truth(),
		Main:   r.number(),
		Ints:   readList(r, r.number),
		Strs:   readList(r, r.text),
		Shapes: readList(r, r.texts),
		Cos:    readList(r, r.coercion(1)),
		Procs:  readList(r, r.proc),
	}
}

func (r *reader) end() {
	if len(r.rest) > 0 {
		giveUp()
	}
}

// readList is handed what reads one of the list. It makes no room ahead: there may be more said to come than does.
func readList[Thing any](r *reader, one func() Thing) []Thing {
	var list []Thing
	for range r.count() {
		list = append(list, one())
	}
	return list
}

func (r *reader) count() int {
	n := r.number()
	if n < 0 || n > len(r.rest) {
		giveUp()
	}
	return n
}

func (r *reader) number() int {
	n, long := word.Get(r.rest)
	if long == 0 {
		giveUp()
	}
	r.rest = r.rest[long:]
	return n
}

func (r *reader) truth() bool {
	n := r.number()
	if n != 0 && n != 1 {
		giveUp()
	}
	return n == 1
}

func (r *reader) text() string {
	n := r.count()
	s := string(r.rest[:n])
	r.rest = r.rest[n:]
	return s
}

func (r *reader) texts() []string {
	return readList(r, r.text)
}

// coercion is what reads one that has so many standing around it, itself counted.
func (r *reader) coercion(deep int) func() api.Co {
	return func() api.Co {
		if deep > api.MaxCoDeep {
			giveUp()
		}
		within := r.coercion(deep + 1)
		return api.Co{
			Tags:   readList(r, r.number),
			Needs:  readList(r, r.need),
			Names:  readList(r, r.text),
			Fields: readList(r, within),
			Fun:    readList(r, within),
		}
	}
}

func (r *reader) need() api.Need {
	return api.Need{Name: r.text(), Label: r.number()}
}

func (r *reader) proc() api.Proc {
	return api.Proc{Caps: r.number(), Regs: r.number(), Code: readList(r, r.instr)}
}

func (r *reader) instr() api.Instr {
	return api.Instr{Op: r.number(), A: r.number(), B: r.number(), C: r.number()}
}
