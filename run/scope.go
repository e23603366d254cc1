package run

// scope is the innermost of the variables in scope, and those further out. With none in scope it is nil.
type scope struct {
	is    value
	outer *scope
	count int
}

func (s *scope) with(v value) *scope {
	if s == nil {
		return &scope{is: v, count: 1}
	}
	return &scope{is: v, outer: s, count: s.count + 1}
}

// at is the variable of a number, from the outermost on.
func (s *scope) at(n int) value {
	if n < 0 || n >= s.count {
		panic(stuck())
	}
	for s.count > n+1 {
		s = s.outer
	}
	return s.is
}
