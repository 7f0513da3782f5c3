package slumber

import "slumber/api"

func number(n int) api.Value { return api.Value{Kind: api.IntValue, N: n} }

func truth(b bool) api.Value {
	if b {
		return number(1)
	}
	return number(0)
}

func isInt(v api.Value) bool { return v.Kind == api.IntValue }

func isRef(v api.Value) bool { return v.Kind == api.RefValue }

// answer ends an operation that met no trap: what it pops goes, what it pushes comes, and the following one is next.
func (m *Machine) answer(pops []api.Value, pushes ...api.Value) int {
	m.goOn(len(pops), pushes...)
	return api.Running
}

func doInt(m *Machine, a int, v []api.Value) int { return m.answer(v, number(a)) }

func doNil(m *Machine, _ int, v []api.Value) int { return m.answer(v, api.Value{}) }

func doLoad(m *Machine, a int, v []api.Value) int { return m.answer(v, m.running().Locals[a]) }

func doStore(m *Machine, a int, v []api.Value) int {
	m.running().Locals[a] = v[0]
	return m.answer(v)
}

func doDup(m *Machine, _ int, v []api.Value) int { return m.answer(v, v[0], v[0]) }

func doPop(m *Machine, _ int, v []api.Value) int { return m.answer(v) }

func doSwap(m *Machine, _ int, v []api.Value) int { return m.answer(v, v[1], v[0]) }

// reckon is for the operations of two ints.
func (m *Machine) reckon(v []api.Value, of func(x, y int) api.Value) int {
	if !isInt(v[0]) || !isInt(v[1]) {
		return api.BadKind
	}
	return m.answer(v, of(v[0].N, v[1].N))
}

func doAdd(m *Machine, _ int, v []api.Value) int {
	return m.reckon(v, func(x, y int) api.Value { return number(x + y) })
}

func doSub(m *Machine, _ int, v []api.Value) int {
	return m.reckon(v, func(x, y int) api.Value { return number(x - y) })
}

func doMul(m *Machine, _ int, v []api.Value) int {
	return m.reckon(v, func(x, y int) api.Value { return number(x * y) })
}

func doLess(m *Machine, _ int, v []api.Value) int {
	return m.reckon(v, func(x, y int) api.Value { return truth(x < y) })
}

func doSame(m *Machine, _ int, v []api.Value) int { return m.answer(v, truth(v[0] == v[1])) }

func doIsRef(m *Machine, _ int, v []api.Value) int { return m.answer(v, truth(isRef(v[0]))) }

func doPrint(m *Machine, _ int, v []api.Value) int {
	if !isInt(v[0]) {
		return api.BadKind
	}
	if len(m.output) >= api.MaxOutput {
		return api.OutFull
	}
	m.output = append(m.output, v[0].N)
	return m.answer(v)
}

func doJump(m *Machine, a int, v []api.Value) int {
	m.goTo(len(v), a)
	return api.Running
}

func doJumpNot(m *Machine, a int, v []api.Value) int {
	if isRef(v[0]) || v[0].N != 0 {
		return m.answer(v)
	}
	return doJump(m, a, v)
}

func doCall(m *Machine, a int, v []api.Value) int {
	if len(m.called) >= api.MaxFrames {
		return api.TooDeep
	}
	m.drop(len(v))
	m.enter(a, m.program.Funcs[a], v)
	return api.Running
}

func doReturn(m *Machine, _ int, v []api.Value) int {
	m.leave(v[0])
	if len(m.called) == 0 {
		return api.Halted
	}
	return api.Running
}

func doHalt(m *Machine, _ int, _ []api.Value) int {
	m.leaveAll()
	return api.Halted
}
