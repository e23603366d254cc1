package check

import (
	"iter"

	"gradus/api"
)

type variable struct {
	name string
	is   api.Type
}

// scope is the variables in scope, from the outermost on.
type scope []variable

// backward goes through them from the innermost on, each with its number.
func (s scope) backward() iter.Seq2[int, variable] {
	return func(yield func(int, variable) bool) {
		for n := len(s) - 1; n >= 0; n-- {
			if !yield(n, s[n]) {
				return
			}
		}
	}
}

// find is the number of the variable that counts of those of a name.
func (s scope) find(name string) (int, bool) {
	for n, v := range s.backward() {
		if v.name == name {
			return n, true
		}
	}
	return 0, false
}
