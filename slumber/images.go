package slumber

import (
	"bytes"
	"slices"

	"slumber/api"
)

const (
	magic     = "SLM"
	headSize  = len(magic) + 1 // with the version
	leastSize = headSize + sumSize
)

// save copies what was written: the writer's room is far longer than most images.
func (m *Machine) save() []byte {
	w := newWriter()
	w.put([]byte(magic)...)
	w.put(newVersion)
	w.machine(m.packed())
	w.put(sumOf(w.passed())...)
	return slices.Clone(w.passed())
}

// packed is the machine with those objects alone that are alive, each in the slot of its number. It has values of its own: they are changed.
func (m *Machine) packed() *Machine {
	alive, slots := m.alive(), m.copySlots()
	p := &Machine{program: m.program, state: m.state, output: m.output, frames: frames{m.copyFrames()}}
	for _, slot := range alive {
		p.slots = append(p.slots, slots[slot])
	}
	p.moveReferences(func(slot int) int { return slices.Index(alive, slot) })
	return p
}

// moveReferences lets each reference tell where its object lies now; if that is nowhere (less than 0), it is nil.
func (m *Machine) moveReferences(now func(slot int) int) {
	for _, l := range m.lists() {
		for i, v := range l {
			if isRef(v) {
				l[i] = referenceOrNil(now(v.N))
			}
		}
	}
}

func referenceOrNil(slot int) api.Value {
	if slot < 0 {
		return api.Value{}
	}
	return reference(slot)
}

// lists are all lists of values that there are.
func (m *Machine) lists() [][]api.Value { return append(m.ofFrames(), m.ofObjects()...) }

func wake(image []byte, capacity int, draws []int) (*Machine, api.Errno) {
	r, e := opened(image)
	if e != api.OK {
		return nil, e
	}
	m := r.machine()
	if r.fault {
		return nil, api.ErrForm
	}
	if e := m.unpack(capacity, draws); e != api.OK {
		return nil, e
	}
	return m, api.OK
}

// opened looks at what lies around an image, and gives a reader of what lies in it.
func opened(image []byte) (*reader, api.Errno) {
	if len(image) > api.MaxImage {
		return nil, api.ErrLong
	}
	if len(image) < leastSize {
		return nil, api.ErrShort
	}
	if !bytes.HasPrefix(image, []byte(magic)) {
		return nil, api.ErrMagic
	}
	v, ok := versionOf(image[len(magic)])
	if !ok {
		return nil, api.ErrVersion
	}
	inner, sum := image[:len(image)-sumSize], image[len(image)-sumSize:]
	if !bytes.Equal(sum, sumOf(inner)) {
		return nil, api.ErrSum
	}
	return &reader{cursor: cursor{bytes: inner, at: headSize}, version: v}, api.OK
}

// isPacked tells whether every reference is to an object that there is, and the objects lie in the order in which they are met, with none that is not.
func (m *Machine) isPacked() bool {
	for _, l := range m.lists() {
		for _, v := range l {
			if isRef(v) && v.N >= len(m.slots) {
				return false
			}
		}
	}
	met := m.alive()
	return len(met) == len(m.slots) && slices.IsSorted(met)
}

// unpack lays the objects, in the order of their numbers, into a heap of that capacity.
func (m *Machine) unpack(capacity int, draws []int) api.Errno {
	if !within(capacity, 1, api.MaxCapacity) || len(m.slots) > capacity {
		return api.ErrRoom
	}
	h := newHeap(capacity)
	if e := h.addDraws(draws); e != api.OK {
		return e
	}
	var laid []int
	for _, o := range m.slots {
		laid = append(laid, h.lay(o))
	}
	m.heap = h
	m.moveReferences(func(number int) int { return laid[number] })
	return api.OK
}
