package heap

import "gradus/api"

// none is the number of no cell: behind an object's last cell, and behind the last free one.
const none = -1

// cell is free, or an object's first one, which has how many slots there are and gives the object its number, or one
// of the slots behind it.
type cell struct {
	n, next           int
	ref, first, stays bool
}

// kept is an arena's cells. Those beyond the ones that were ever in use are free without standing anywhere, so that an
// arena takes no more memory than what is made in it, however many cells it may have.
type kept struct {
	cells   []cell
	free    int
	room    int
	used    int
	objects []int
}

// has tells an object's number from all others.
func (k *kept) has(ref int) bool {
	return 0 <= ref && ref < len(k.cells) && k.cells[ref].first
}

// take puts something into a cell that is free.
func (k *kept) take(c cell) int {
	k.used++
	at := k.free
	if at == none {
		k.cells = append(k.cells, c)
		return len(k.cells) - 1
	}
	k.free = k.cells[at].next
	k.cells[at] = c
	return at
}

// put goes from the last slot on, since each cell tells the one behind it.
func (k *kept) put(l []api.Slot) int {
	next := none
	for i := range len(l) {
		s := l[len(l)-1-i]
		next = k.take(cell{n: s.N, ref: s.Ref, next: next})
	}
	ref := k.take(cell{n: len(l), next: next, first: true})
	k.objects = append(k.objects, ref)
	return ref
}

func (k *kept) slots(ref int) []api.Slot {
	first := k.cells[ref]
	l := make([]api.Slot, 0, first.n)
	for at := first.next; at != none; at = k.cells[at].next {
		l = append(l, api.Slot{Ref: k.cells[at].ref, N: k.cells[at].n})
	}
	return l
}

// drop makes all cells of an object free.
func (k *kept) drop(ref int) {
	for at := ref; at != none; {
		next := k.cells[at].next
		k.cells[at] = cell{next: k.free}
		k.free = at
		k.used--
		at = next
	}
}
