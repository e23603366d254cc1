package bytes

import (
	"gradus/api"
	"gradus/word"
)

// writer has a method for each sort of thing that bytes are made of.
type writer struct {
	bytes []byte
}

func (w *writer) code(c api.Code) {
	w.truth(c.Merge)
	w.number(c.Main)
	writeList(w, c.Ints, w.number)
	writeList(w, c.Strs, w.text)
	writeList(w, c.Shapes, w.texts)
	writeList(w, c.Cos, w.coercion)
	writeList(w, c.Procs, w.proc)
}

// writeList is handed what writes one of the list.
func writeList[Thing any](w *writer, list []Thing, one func(Thing)) {
	w.number(len(list))
	for _, thing := range list {
		one(thing)
	}
}

// number puts behind nothing, since Put copies all that it is handed.
func (w *writer) number(n int) {
	w.bytes = append(w.bytes, word.Put(nil, n)...)
}

func (w *writer) truth(holds bool) {
	if holds {
		w.number(1)
		return
	}
	w.number(0)
}

func (w *writer) text(s string) {
	w.number(len(s))
	w.bytes = append(w.bytes, s...)
}

func (w *writer) texts(list []string) {
	writeList(w, list, w.text)
}

func (w *writer) coercion(c api.Co) {
	writeList(w, c.Tags, w.number)
	writeList(w, c.Needs, w.need)
	writeList(w, c.Names, w.text)
	writeList(w, c.Fields, w.coercion)
	writeList(w, c.Fun, w.coercion)
}

func (w *writer) need(n api.Need) {
	w.text(n.Name)
	w.number(n.Label)
}

func (w *writer) proc(p api.Proc) {
	w.number(p.Caps)
	w.number(p.Regs)
	writeList(w, p.Code, w.instr)
}

func (w *writer) instr(i api.Instr) {
	w.number(i.Op)
	w.number(i.A)
	w.number(i.B)
	w.number(i.C)
}
