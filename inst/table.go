package inst

import (
	"slices"
	"strconv"
	"strings"

	"gradus/api"
)

// key is an instance, told in such a way that two are equal just where their instances are the same.
type key struct {
	module, decl int
	types        string
}

// Table is instances, each once.
type Table struct {
	most    int
	numbers map[key]int
	list    []api.Instance
}

// New is one for so many.
func New(most int) *Table {
	return &Table{most: most, numbers: map[key]int{}}
}

// Add is an instance's number, Len how many there are, At one of them.
func (t *Table) Add(i api.Instance) (int, api.Errno) {
	if t == nil {
		t = New(0)
	}
	for _, x := range i.Types {
		if !normal(x) {
			return 0, api.ErrType
		}
	}
	k := keyOf(i)
	if n, there := t.numbers[k]; there {
		return n, api.OK
	}
	n := len(t.list)
	if n >= t.most {
		return 0, api.ErrMany
	}
	t.numbers[k] = n
	t.list = append(t.list, ownInstance(i))
	return n, api.OK
}

func (t *Table) Len() int {
	if t == nil {
		return 0
	}
	return len(t.list)
}

func (t *Table) At(i int) (api.Instance, bool) {
	if i < 0 || i >= t.Len() {
		return api.Instance{}, false
	}
	return ownInstance(t.list[i]), true
}

// keyOf is asked of instances whose types are normal. These are written out by hand: Show tells nothing of those that
// are beyond the limits.
func keyOf(i api.Instance) key {
	var text strings.Builder
	var write func(t api.Type)
	write = func(t api.Type) {
		text.WriteString(strconv.Itoa(t.Kind))
		text.WriteByte('(')
		for at, kid := range t.Kids {
			if t.Kind == api.TRec {
				text.WriteString(t.Names[at])
				text.WriteByte(':')
			}
			write(kid)
		}
		text.WriteByte(')')
	}
	for _, t := range i.Types {
		write(t)
	}
	return key{i.Module, i.Decl, text.String()}
}

func ownInstance(i api.Instance) api.Instance {
	i.Types = ownTypes(i.Types)
	return i
}

func ownTypes(l []api.Type) []api.Type {
	own := slices.Clone(l)
	for i, t := range own {
		own[i].Names = slices.Clone(t.Names)
		own[i].Kids = ownTypes(t.Kids)
	}
	return own
}
