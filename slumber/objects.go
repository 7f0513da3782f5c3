package slumber

import (
	"slices"

	"slumber/api"
)

// answerNew ends an operation that makes an object. What it pops leaves the stack only when there is a slot: it counts for what is alive. Nor is a draw taken ahead of that.
func (m *Machine) answerNew(pops []api.Value, kind uint8, fields []api.Value) int {
	if m.full() {
		m.collect()
	}
	if m.full() {
		return api.HeapFull
	}
	return m.answer(pops, reference(m.lay(api.Object{Kind: kind, Fields: fields})))
}

func doRecord(m *Machine, a int, v []api.Value) int {
	return m.answerNew(v, api.RecordObject, make([]api.Value, a))
}

func doArray(m *Machine, _ int, v []api.Value) int {
	if !isInt(v[0]) {
		return api.BadKind
	}
	if !within(v[0].N, 0, api.MaxArray) {
		return api.BadSize
	}
	return m.answerNew(v, api.ArrayObject, make([]api.Value, v[0].N))
}

func doWeak(m *Machine, _ int, v []api.Value) int {
	if !isRef(v[0]) {
		return api.BadKind
	}
	return m.answerNew(v, api.WeakObject, []api.Value{v[0]})
}

// reach tells whether an object of this kind has an entry of that number, or which trap is met.
func reach(o api.Object, kind uint8, index api.Value) int {
	if o.Kind != kind || !isInt(index) {
		return api.BadKind
	}
	if !within(index.N, 0, len(o.Fields)-1) {
		return api.BadIndex
	}
	return api.Running
}

// answerEntry is for the operations that look at an entry.
func (m *Machine) answerEntry(v []api.Value, kind uint8, index api.Value) int {
	o := m.referred(v[0])
	if trap := reach(o, kind, index); trap != api.Running {
		return trap
	}
	return m.answer(v, o.Fields[index.N])
}

// setEntry is for the operations that set an entry to what is on top.
func (m *Machine) setEntry(v []api.Value, kind uint8, index api.Value) int {
	o := m.referred(v[0])
	if trap := reach(o, kind, index); trap != api.Running {
		return trap
	}
	o.Fields[index.N] = v[len(v)-1]
	return m.answer(v)
}

func doGet(m *Machine, a int, v []api.Value) int {
	return m.answerEntry(v, api.RecordObject, number(a))
}

func doPut(m *Machine, a int, v []api.Value) int {
	return m.setEntry(v, api.RecordObject, number(a))
}

func doAt(m *Machine, _ int, v []api.Value) int {
	return m.answerEntry(v, api.ArrayObject, v[1])
}

func doSet(m *Machine, _ int, v []api.Value) int {
	return m.setEntry(v, api.ArrayObject, v[1])
}

func doLen(m *Machine, _ int, v []api.Value) int {
	o := m.referred(v[0])
	if o.Kind != api.RecordObject && o.Kind != api.ArrayObject {
		return api.BadKind
	}
	return m.answer(v, number(len(o.Fields)))
}

func doStrong(m *Machine, _ int, v []api.Value) int {
	o := m.referred(v[0])
	if o.Kind != api.WeakObject {
		return api.BadKind
	}
	return m.answer(v, m.ifAlive(o.Fields[0]))
}

// ifAlive is nil in place of what lies in the heap but is not alive: nobody may see whether it has been freed yet.
func (m *Machine) ifAlive(v api.Value) api.Value {
	if isRef(v) && slices.Contains(m.alive(), v.N) {
		return v
	}
	return api.Value{}
}
