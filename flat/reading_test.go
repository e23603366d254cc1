package flat

import (
	"fmt"
	"slices"
	"strconv"
	"strings"

	"gradus/api"
	"gradus/coerce"
	"gradus/word"
)

// reading is a second reading of the chapter, as plain as can be: calls stand on Go's stack, variables are copied for each
// expression, a value bears a list of coercions, and each cast is worked out anew. What ends a run is told by an error.
type reading struct {
	flats   []api.Flat
	input   []int
	fuel    int
	lines   []string
	applied int // coercions
	borne   int // the most that a value bore
}

type readValue struct {
	tag    int
	n      int // of a bool 0 or 1
	s      string
	fields map[string]readValue
	body   api.Core
	made   []readValue
	bears  []api.Co
}

type readEnd struct{ how, n int }

func (e readEnd) Error() string { return fmt.Sprint("end ", e.how, " ", e.n) }

var (
	readStuck = readEnd{how: api.EndStuck}
	// tooMuch is of what the plain way does not come to an end with.
	tooMuch = readEnd{how: -1}
)

const mostApplied = 20000

func read(l []api.Flat, main int, input []int, fuel int) (*reading, api.Trace) {
	r := &reading{flats: l, input: input, fuel: fuel}
	v, err := r.run(l[main].Body, []readValue{{}})
	if err != nil {
		e := err.(readEnd)
		return r, api.Trace{Lines: r.lines, End: e.how, N: e.n}
	}
	return r, api.Trace{Lines: r.lines, End: api.EndDone, Text: readText(v)}
}

func readText(v readValue) string {
	switch v.tag {
	case api.TagNull:
		return "null"
	case api.TagBool:
		return strconv.FormatBool(v.n == 1)
	case api.TagInt:
		return strconv.Itoa(v.n)
	case api.TagStr:
		s, more := v.s, ""
		if len(s) > 64 {
			s, more = s[:64], ".."
		}
		return `"` + strings.NewReplacer("\\", "\\\\", "\"", "\\\"", "\n", "\\n", "\t", "\\t").Replace(s) + `"` + more
	case api.TagFun:
		return "fn"
	}
	var l []string
	for _, name := range readNames(v) {
		if f := v.fields[name]; f.tag == api.TagRec {
			l = append(l, name+": {..}")
		} else {
			l = append(l, name+": "+readText(f))
		}
	}
	return "{" + strings.Join(l, ", ") + "}"
}

func readNames(v readValue) []string {
	var names []string
	for name := range v.fields {
		names = append(names, name)
	}
	slices.Sort(names)
	return names
}

func readBool(holds bool) readValue {
	if holds {
		return readValue{tag: api.TagBool, n: 1}
	}
	return readValue{tag: api.TagBool}
}

func (r *reading) apply(c api.Co, v readValue) (readValue, error) {
	if r.applied++; r.applied > mostApplied {
		return v, tooMuch
	}
	for _, need := range c.Needs {
		if _, there := v.fields[need.Name]; v.tag == api.TagRec && !there {
			return v, readEnd{api.EndBlame, need.Label}
		}
	}
	if c.Tags[v.tag] != 0 {
		return v, readEnd{api.EndBlame, c.Tags[v.tag]}
	}
	if v.tag == api.TagRec && len(c.Names) > 0 || v.tag == api.TagFun && len(c.Fun) > 0 {
		v.bears = append(slices.Clone(v.bears), c)
		r.borne = max(r.borne, len(v.bears))
	}
	return v, nil
}

func (r *reading) field(v readValue, name string) (readValue, error) {
	f, there := v.fields[name]
	if !there {
		return v, readStuck
	}
	for _, c := range v.bears {
		for i, other := range c.Names {
			if other != name {
				continue
			}
			var err error
			if f, err = r.apply(c.Fields[i], f); err != nil {
				return f, err
			}
		}
	}
	return f, nil
}

func (r *reading) call(f, a readValue) (readValue, error) {
	if r.fuel <= 0 {
		return f, readEnd{how: api.EndFuel}
	}
	r.fuel--
	if f.tag != api.TagFun {
		return f, readStuck
	}
	var err error
	for _, c := range slices.Backward(f.bears) {
		if a, err = r.apply(c.Fun[0], a); err != nil {
			return a, err
		}
	}
	v, err := r.run(f.body, append(slices.Clone(f.made), a))
	for _, c := range f.bears {
		if err == nil {
			v, err = r.apply(c.Fun[1], v)
		}
	}
	return v, err
}

func (r *reading) run(c api.Core, vars []readValue) (readValue, error) {
	switch c.Kind {
	case api.CInt:
		return readValue{tag: api.TagInt, n: c.N}, nil
	case api.CStr:
		return readValue{tag: api.TagStr, s: c.Text}, nil
	case api.CBool:
		return readBool(c.N == 1), nil
	case api.CNull:
		return readValue{}, nil
	case api.CVar:
		return vars[c.N], nil
	case api.CGlobal, api.CMake:
		f := readValue{tag: api.TagFun, body: r.flats[c.N].Body}
		for _, n := range c.Ints {
			f.made = append(f.made, vars[n])
		}
		return f, nil
	case api.CRead:
		if len(r.input) == 0 {
			return readValue{}, readEnd{api.EndTrap, 2}
		}
		n := r.input[0]
		r.input = r.input[1:]
		r.lines = append(r.lines, fmt.Sprint("read ", n))
		return readValue{tag: api.TagInt, n: n}, nil
	case api.CIf, api.CLet:
		first, err := r.run(c.Kids[0], vars)
		switch {
		case err != nil:
			return first, err
		case c.Kind == api.CLet:
			return r.run(c.Kids[1], append(slices.Clone(vars), first))
		case first.tag != api.TagBool:
			return first, readStuck
		}
		return r.run(c.Kids[2-first.n], vars)
	}
	var kids []readValue
	for _, kid := range c.Kids {
		v, err := r.run(kid, vars)
		if err != nil {
			return v, err
		}
		kids = append(kids, v)
	}
	return r.done(c, kids)
}

// wants is the tag that all Kids of a kind of core must have; -1: any.
func wants(kind int) int {
	switch kind {
	case api.CNot:
		return api.TagBool
	case api.CCat:
		return api.TagStr
	case api.CSel:
		return api.TagRec
	case api.CNeg, api.COp:
		return api.TagInt
	}
	return -1
}

// done is what becomes of an expression whose Kids were run.
func (r *reading) done(c api.Core, kids []readValue) (readValue, error) {
	tag := wants(c.Kind)
	if tag >= 0 && slices.ContainsFunc(kids, func(v readValue) bool { return v.tag != tag }) {
		return readValue{}, readStuck
	}
	switch c.Kind {
	case api.CCall:
		return r.call(kids[0], kids[1])
	case api.CRec:
		v := readValue{tag: api.TagRec, fields: map[string]readValue{}}
		for i, name := range c.Names {
			v.fields[name] = kids[i]
		}
		return v, nil
	case api.CSel:
		return r.field(kids[0], c.Text)
	case api.CWith:
		return r.with(kids[0], c.Text, kids[1])
	case api.CIs:
		return readBool(kids[0].tag == c.N), nil
	case api.CEq:
		a, b := kids[0], kids[1]
		if a.tag == b.tag && a.tag >= api.TagRec {
			return a, readEnd{api.EndTrap, 3}
		}
		return readBool(a.tag == b.tag && a.n == b.n && a.s == b.s), nil
	case api.CPrint:
		r.lines = append(r.lines, "print "+readText(kids[0]))
		return readValue{}, nil
	case api.CCast:
		return r.apply(coerce.Make(c.Types[0], c.Types[1], 2*c.N+2), kids[0])
	case api.CCo:
		return r.apply(c.Cos[0], kids[0])
	case api.CNot:
		return readBool(kids[0].n == 0), nil
	case api.CNeg:
		return readValue{tag: api.TagInt, n: -kids[0].n}, nil
	case api.CCat:
		if s := kids[0].s + kids[1].s; len(s) <= 4096 {
			return readValue{tag: api.TagStr, s: s}, nil
		}
		return kids[0], readEnd{api.EndTrap, 4}
	}
	n, e := word.Bin(c.N, kids[0].n, kids[1].n)
	switch {
	case e != api.OK:
		return kids[0], readEnd{api.EndTrap, 1}
	case c.N >= api.OpLt:
		return readBool(n == 1), nil
	}
	return readValue{tag: api.TagInt, n: n}, nil
}

func (r *reading) with(v readValue, name string, f readValue) (readValue, error) {
	if v.tag != api.TagRec {
		return v, readStuck
	}
	out := readValue{tag: api.TagRec, fields: map[string]readValue{name: f}}
	for _, other := range readNames(v) {
		if other == name {
			continue
		}
		is, err := r.field(v, other)
		if err != nil {
			return is, err
		}
		out.fields[other] = is
	}
	return out, nil
}
