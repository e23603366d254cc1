package run

import (
	"gradus/api"
	"gradus/word"
)

func operation(op int, a, b value) value {
	n, e := word.Bin(op, int(a.(number)), int(b.(number)))
	switch {
	case e == api.ErrZero:
		panic(trap(api.TrapZero))
	case e != api.OK:
		panic(stuck())
	case op == api.OpLt || op == api.OpLe:
		return truth(n == 1)
	}
	return number(n)
}

func equal(a, b value) value {
	if a.tag() != b.tag() {
		return truth(false)
	}
	switch a.(type) {
	case record, function:
		panic(trap(api.TrapEqual))
	}
	return truth(a == b)
}

func joined(a, b value) value {
	former, latter := a.(text), b.(text)
	if len(former)+len(latter) > api.MaxConcat {
		panic(trap(api.TrapConcat))
	}
	return former + latter
}
