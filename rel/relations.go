package rel

import (
	"slices"

	"gradus/api"
)

// relation is of normal types. It is told where these are, so that it knows what it has begun with.
type relation func(a, b *api.Type) bool

// once makes a relation pass by types that it has begun to hold against each other: where it does not hold of them, it
// holds of nothing that they are within. Else types that have the same Kids time and again would take for ever.
func once(r relation) relation {
	begun := map[[2]*api.Type]struct{}{}
	return func(a, b *api.Type) bool {
		if _, ok := begun[[2]*api.Type{a, b}]; ok {
			return true
		}
		begun[[2]*api.Type{a, b}] = struct{}{}
		return r(a, b)
	}
}

func newSub() relation {
	var sub relation
	sub = once(func(a, b *api.Type) bool {
		if isAny(a) || isAny(b) {
			return isAny(a) && isAny(b)
		}
		return asSub(a, b, sub)
	})
	return sub
}

func newFits() relation {
	var fits relation
	fits = once(func(a, b *api.Type) bool {
		return isAny(a) || isAny(b) || asSub(a, b, fits)
	})
	return fits
}

// asSub is what Sub and Fits have in common, of types that are not any.
func asSub(a, b *api.Type, onward relation) bool {
	return eachPart(a, b, within{
		records:   func(m, n part) bool { return hasFields(m, n, onward) },
		functions: func(m, n part) bool { return turned(m, n, onward, onward) },
	})
}

func newNaive() relation {
	var naive relation
	naiveWithin := within{
		records: func(m, n part) bool {
			return slices.Equal(m.of.Names, n.of.Names) && hasFields(m, n, naive)
		},
		functions: func(m, n part) bool {
			return naive(m.takes(), n.takes()) && naive(m.answers(), n.answers())
		},
	}
	naive = once(func(a, b *api.Type) bool {
		if isAny(a) || isAny(b) {
			return isAny(b)
		}
		return len(partsOf(a)) == len(partsOf(b)) && eachPart(a, b, naiveWithin)
	})
	return naive
}

// newSides is Pos and Neg, which turn into one another at what functions take.
func newSides() (pos, neg relation) {
	posWithin := within{
		records:   func(m, n part) bool { return posRecords(m, n, pos) },
		functions: func(m, n part) bool { return turned(m, n, neg, pos) },
	}
	negWithin := within{
		alone:     true,
		records:   func(m, n part) bool { return negRecords(m, n, neg) },
		functions: func(m, n part) bool { return turned(m, n, pos, neg) },
	}
	pos = once(func(a, b *api.Type) bool {
		return isAny(a) && isAny(b) || eachPart(a, b, posWithin)
	})
	neg = once(func(a, b *api.Type) bool {
		return isAny(a) && isAny(b) || eachPart(a, b, negWithin)
	})
	return pos, neg
}

func posRecords(m, n part, pos relation) bool {
	if n.open() {
		return eachKid(m.of, func(kid *api.Type) bool { return pos(kid, n.of) })
	}
	return hasFields(m, n, pos)
}

func negRecords(m, n part, neg relation) bool {
	switch {
	case n.open():
		return eachKid(m.of, func(kid *api.Type) bool { return neg(kid, n.of) })
	case m.open():
		return eachKid(n.of, func(kid *api.Type) bool { return neg(m.of, kid) })
	}
	return sharedFields(m, n, neg)
}
