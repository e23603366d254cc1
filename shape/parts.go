package shape

import (
	"slices"
	"strings"

	"gradus/api"
)

// names are all names of a tree, each once, with numbers from 0 on.
type names struct {
	numbers map[string]int
	list    []string
}

// number keeps a copy of a name that is new: what is handed in may be a small part of a long text.
func (l *names) number(name string) int {
	n, known := l.numbers[name]
	if !known {
		n, name = len(l.list), strings.Clone(name)
		l.numbers[name] = n
		l.list = append(l.list, name)
	}
	return n
}

// most is how many names stand in one list of a shape.
const most = api.MaxFields

// shape has its last names alone in a list of its own; those ahead of them, as many as fill such lists, are those of
// the shape ahead. So each of many shapes that are made of one another does not take a list as long as all its names.
type shape struct {
	size, ahead int
	last        []string
	places      *places
}

// more is the shape s with the name of the number n behind its names.
func (t *kept) more(s, n int) shape {
	was := t.shapes[s]
	next := shape{size: was.size + 1, ahead: was.ahead, last: slices.Clone(was.last), places: was.places.with(n, was.size)}
	if len(was.last) == most {
		next.ahead, next.last = s, nil
	}
	next.last = append(next.last, t.names.list[n])
	return next
}

// places has the places of a shape's names, each where the bits of the name's number lead, the lowest one first. What
// once stands in it stays as it is, so that shapes that are made of one another share most of it.
type places struct {
	kids  [2]*places
	place int // from 1 on; 0 where there is none
}

// at is the place of the name of the number n.
func (p *places) at(n int) (int, bool) {
	// One more than the number: its highest bit tells where the way ends.
	for n++; n > 1 && p != nil; n >>= 1 {
		p = p.kids[n&1]
	}
	if p == nil || p.place == 0 {
		return 0, false
	}
	return p.place - 1, true
}

// with is the same with one place more.
func (p *places) with(n, place int) *places {
	return p.put(n+1, place+1)
}

func (p *places) put(way, place int) *places {
	var next places
	if p != nil {
		next = *p
	}
	if way == 1 {
		next.place = place
	} else {
		next.kids[way&1] = next.kids[way&1].put(way>>1, place)
	}
	return &next
}
