package heap

import "slices"

// deepest is how many objects are gone into within one another: a chain of objects may be longer than Go's stack
// bears, so that what lies deeper is gone into later.
const deepest = 1 << 10

// mark tells which objects stay: those in roots, and those that they lead to.
func (k *kept) mark(roots []int) {
	later := slices.Clone(roots)
	var reach func(ref, deep int)
	reach = func(ref, deep int) {
		if !k.has(ref) || k.cells[ref].stays {
			return
		}
		if deep == deepest {
			later = append(later, ref)
			return
		}
		k.cells[ref].stays = true
		for at := k.cells[ref].next; at != none; at = k.cells[at].next {
			if k.cells[at].ref {
				reach(k.cells[at].n, deep+1)
			}
		}
	}
	for len(later) > 0 {
		ref := later[len(later)-1]
		later = later[:len(later)-1]
		reach(ref, 0)
	}
}

// sweep lets all objects go that are not marked, and takes the marks away.
func (k *kept) sweep() {
	stay := k.objects[:0]
	for _, ref := range k.objects {
		if k.cells[ref].stays {
			k.cells[ref].stays = false
			stay = append(stay, ref)
		} else {
			k.drop(ref)
		}
	}
	k.objects = stay
}
