package clos

import (
	"fmt"
	"strings"

	"gradus/api"
)

// chance is a row of numbers that is the same each time.
type chance uint64

func (c *chance) below(n int) int {
	*c ^= *c << 13
	*c ^= *c >> 7
	*c ^= *c << 17
	return int(uint64(*c)>>11) % n
}

func (c *chance) one(words string) string {
	l := strings.Fields(words)
	return l[c.below(len(l))]
}

// anyCore is any core at all, in which variables have numbers below how many there are in scope.
func (c *chance) anyCore(height, scope int) api.Core {
	switch n := c.below(12); {
	case height <= 1 && n < 10:
		return vari(c.below(scope))
	case height <= 1 || n == 0:
		l := leaves()
		return l[c.below(len(l))]
	case n < 4:
		return fn(c.anyCore(height-1, scope+1))
	case n < 7:
		return let(c.anyCore(height-1, scope), c.anyCore(height-1, scope+1))
	}
	l := kindsWithKids()
	k := l[c.below(len(l))]
	k.Kids = make([]api.Core, len(k.Kids))
	for i := range k.Kids {
		more := 0
		if k.Kind == api.CLet && i == 1 {
			more = 1
		}
		k.Kids[i] = c.anyCore(height-1, scope+more)
	}
	return k
}

// maker makes up modules with many functions within functions. What an expression comes to is taken as any, where
// something is done with it, so that all fits.
type maker struct {
	*chance
	in []string
}

func (k *maker) within(height int) (name, body string) {
	name = k.one("u v w x y z")
	k.in = append(k.in, name)
	body = k.any(height)
	k.in = k.in[:len(k.in)-1]
	return name, body
}

func (k *maker) leaf() string {
	if k.below(12) >= 3 {
		return k.in[k.below(len(k.in))]
	}
	return k.one(`null true false 1 "s" 40 read() {} f0 id[int] id[any] id[{a:str}] pick[int|str,any]`)
}

// any is an expression that is taken as any.
func (k *maker) any(height int) string {
	return "(" + k.expr(height) + " as any)"
}

// typed is a type that is written behind a name, or none.
func (k *maker) typed() string {
	return []string{"", "", ": any", ": int", ": any -> any", ": {a: any} | null"}[k.below(6)]
}

func (k *maker) expr(height int) string {
	if height <= 1 {
		return k.leaf()
	}
	h := height - 1
	switch k.below(16) {
	case 0, 1, 2, 3:
		name, body := k.within(h)
		return fmt.Sprintf("(fn (%s%s)%s => %s)", name, k.typed(), k.typed(), body)
	case 4, 5, 6:
		is := k.any(h)
		name, body := k.within(h)
		return fmt.Sprintf("(let %s%s = %s; %s)", name, k.typed(), is, body)
	case 7, 8, 9:
		return fmt.Sprintf("%s(%s)", k.any(h), k.any(h))
	case 10:
		return fmt.Sprintf("{a: %s, b: %s}", k.any(h), k.any(h))
	case 11:
		return fmt.Sprintf("%s.%s", k.any(h), k.one("a b"))
	case 12:
		return fmt.Sprintf("{%s with %s: %s}", k.any(h), k.one("a b"), k.any(h))
	case 13:
		return fmt.Sprintf("(if %s then %s else %s)", k.test(h), k.any(h), k.any(h))
	case 14:
		return fmt.Sprintf(k.one("print(%s) (-%s) (not%s)"), k.any(h))
	}
	return fmt.Sprintf("(%s %s %s)", k.any(h), k.one("+ - * / % < <= == ++ and or ^ & << >>"), k.any(h))
}

func (k *maker) test(h int) string {
	e := k.any(h)
	if k.below(3) > 0 {
		e = k.in[k.below(len(k.in))]
	}
	return fmt.Sprintf("(%s is %s)", e, k.one("null bool int str record function"))
}

// makeUp is a module of some functions, two of which have instances.
func (k *maker) makeUp() string {
	var text strings.Builder
	for _, head := range []string{"f0(%s)", "id[A](%s: A)", "main(%s)", "pick[A, B <: any](%s: A): B", "f1(%s: int): any"} {
		name := k.one("u v w x")
		k.in = []string{name}
		fmt.Fprintf(&text, "fn "+head+" = %s;\n", name, k.any(1+k.below(7)))
	}
	return text.String()
}
