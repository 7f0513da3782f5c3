package slumber

import (
	"slices"

	"slumber/api"
)

// begin makes a machine that has not made a step yet.
func begin(p api.Program, capacity int) (*Machine, api.Errno) {
	if e, _ := check(p); e != api.OK {
		return nil, e
	}
	if !within(capacity, 1, api.MaxCapacity) {
		return nil, api.ErrRoom
	}
	m := &Machine{program: copyProgram(p), heap: newHeap(capacity)}
	m.enter(0, m.program.Funcs[0], nil)
	return m, api.OK
}

// copyProgram: the caller may write into what was handed in, and the machine must not change by that.
func copyProgram(p api.Program) api.Program {
	funcs := slices.Clone(p.Funcs)
	for i := range funcs {
		funcs[i].Code = slices.Clone(funcs[i].Code)
	}
	return api.Program{Funcs: funcs}
}

func (m *Machine) run(fuel int) (int, api.Errno) {
	if !within(fuel, 0, api.MaxFuel) {
		return 0, api.ErrFuel
	}
	steps := 0
	for steps < fuel && m.state == api.Running {
		m.step()
		steps++
	}
	return steps, api.OK
}

func (m *Machine) step() {
	f := m.running()
	in := m.program.Funcs[f.Func].Code[f.Pc]
	m.state = operations[in.Op].does(m, in.A, m.top(popsOf(m.program, in)))
}

// alive tells the slots of the objects that are alive, in the order in which they are met.
func (m *Machine) alive() []int { return m.reached(m.values()) }

// collect frees what is not alive; no program sees when.
func (m *Machine) collect() int { return m.sweep(m.alive()) }
