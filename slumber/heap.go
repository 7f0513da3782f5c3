package slumber

import (
	"slices"

	"slumber/api"
)

// heap is as many slots as the capacity says; one without an object is Free. The draws say where new objects are to lie, if there it is free.
type heap struct {
	slots []api.Object
	draws []int
}

func newHeap(capacity int) heap { return heap{slots: make([]api.Object, capacity)} }

func reference(slot int) api.Value { return api.Value{Kind: api.RefValue, N: slot} }

// referred is the object that a value refers to; of a value that is no reference it is none, and so Free.
func (h *heap) referred(v api.Value) api.Object {
	if v.Kind != api.RefValue {
		return api.Object{}
	}
	return h.slots[v.N]
}

func (h *heap) taken() int {
	n := 0
	for _, o := range h.slots {
		if o.Kind != api.Free {
			n++
		}
	}
	return n
}

func (h *heap) full() bool { return h.taken() == len(h.slots) }

func isFree(o api.Object) bool { return o.Kind == api.Free }

// addDraws keeps a copy: the list is the caller's.
func (h *heap) addDraws(l []int) api.Errno {
	if len(h.draws)+len(l) > api.MaxDraws {
		return api.ErrLong
	}
	h.draws = append(h.draws, l...)
	return api.OK
}

// lay lays an object into a slot, and tells which. There must be a free one.
func (h *heap) lay(o api.Object) int {
	slot := h.choose()
	h.slots[slot] = o
	return slot
}

// choose takes a draw away even where the slot that it says is not free.
func (h *heap) choose() int {
	if len(h.draws) > 0 {
		slot := rest(h.draws[0], len(h.slots))
		h.draws = slices.Delete(h.draws, 0, 1)
		if isFree(h.slots[slot]) {
			return slot
		}
	}
	return slices.IndexFunc(h.slots, isFree)
}

// rest is d modulo n, from 0 on: what % tells has the sign of d.
func rest(d, n int) int { return (d%n + n) % n }

// reached are the slots of all objects that the values lead to, in the order in which they are met: first through the values, then object by object.
func (h *heap) reached(values []api.Value) []int {
	var met []int
	known := make([]bool, len(h.slots))
	meet := func(l []api.Value) {
		for _, v := range l {
			if v.Kind == api.RefValue && !known[v.N] {
				known[v.N] = true
				met = append(met, v.N)
			}
		}
	}
	meet(values)
	for i := 0; i < len(met); i++ {
		if o := h.slots[met[i]]; o.Kind != api.WeakObject {
			meet(o.Fields)
		}
	}
	return met
}

// sweep frees all that is not alive, and tells how many objects that were.
func (h *heap) sweep(alive []int) int {
	before := h.taken()
	for slot := range h.slots {
		if !slices.Contains(alive, slot) {
			h.slots[slot] = api.Object{}
		}
	}
	h.forgetFreed()
	return before - h.taken()
}

// forgetFreed lets no weak object refer to a slot that has been freed: another object may come to lie there.
func (h *heap) forgetFreed() {
	for _, o := range h.slots {
		if o.Kind == api.WeakObject && isFree(h.referred(o.Fields[0])) {
			o.Fields[0] = api.Value{}
		}
	}
}

// ofObjects are the lists of values of the slots, one for each.
func (h *heap) ofObjects() [][]api.Value {
	var l [][]api.Value
	for _, o := range h.slots {
		l = append(l, o.Fields)
	}
	return l
}

func (h *heap) copySlots() []api.Object {
	l := slices.Clone(h.slots)
	for i := range l {
		l[i].Fields = slices.Clone(l[i].Fields)
	}
	return l
}
