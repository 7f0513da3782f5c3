package slumber_test

import (
	"fmt"
	"math/big"
	"slices"
	"strings"

	"slumber/api"
)

// model is a second machine, made another way, that the tests hold the program against: its references are pointers, what is alive is asked by going down from a root, and a step that traps is made on a copy that is thrown away.
type model struct {
	program api.Program
	state   int
	output  []int
	frames  []*modelFrame
	slots   []*modelObject
	draws   []int
}

type modelFrame struct {
	function, pc  int
	locals, stack []any // nil, int or *modelObject
}

type modelObject struct {
	kind   int
	values []any
}

func newModel(p api.Program, capacity int) *model {
	m := &model{program: p, slots: make([]*modelObject, capacity)}
	m.call(0, nil)
	return m
}

func (m *model) call(f int, params []any) {
	locals := make([]any, m.program.Funcs[f].Locals)
	copy(locals, params)
	m.frames = append(m.frames, &modelFrame{function: f, locals: locals})
}

// copied has objects and frames of its own.
func (m *model) copied() *model {
	twin := map[*modelObject]*modelObject{}
	for _, o := range m.slots {
		if o != nil {
			twin[o] = &modelObject{kind: o.kind}
		}
	}
	values := func(l []any) []any {
		out := make([]any, len(l))
		for i, v := range l {
			out[i] = v
			if o, ok := v.(*modelObject); ok {
				out[i] = twin[o]
			}
		}
		return out
	}
	c := &model{program: m.program, state: m.state, output: slices.Clone(m.output), slots: make([]*modelObject, len(m.slots)), draws: slices.Clone(m.draws)}
	for i, o := range m.slots {
		if o != nil {
			c.slots[i] = twin[o]
			c.slots[i].values = values(o.values)
		}
	}
	for _, f := range m.frames {
		c.frames = append(c.frames, &modelFrame{f.function, f.pc, values(f.locals), values(f.stack)})
	}
	return c
}

func (m *model) alive() map[*modelObject]bool {
	found := map[*modelObject]bool{}
	var down func(v any)
	down = func(v any) {
		o, ok := v.(*modelObject)
		if !ok || found[o] {
			return
		}
		found[o] = true
		if o.kind != api.WeakObject {
			for _, v := range o.values {
				down(v)
			}
		}
	}
	for _, f := range m.frames {
		for _, v := range f.locals {
			down(v)
		}
		for _, v := range f.stack {
			down(v)
		}
	}
	return found
}

// step makes one step: on a copy, of which only the state is taken over if it traps.
func (m *model) step() {
	c := m.copied()
	ahead := c.alive()
	f := c.frames[len(c.frames)-1]
	i := c.program.Funcs[f.function].Code[f.pc]
	c.do(f, i, ahead)
	if c.state > api.Halted {
		m.state = c.state
		return
	}
	*m = *c
}

func (f *modelFrame) pop() any {
	v := f.stack[len(f.stack)-1]
	f.stack = f.stack[:len(f.stack)-1]
	return v
}

func (f *modelFrame) push(v any) { f.stack = append(f.stack, v) }

func (f *modelFrame) pushTruth(b bool) {
	if b {
		f.push(1)
	} else {
		f.push(0)
	}
}

func kindOf(v any) int {
	if o, ok := v.(*modelObject); ok {
		return o.kind
	}
	return api.Free
}

func isNumber(v any) bool {
	_, ok := v.(int)
	return ok
}

// do does what the document's table says; a trap is set as the state, whatever has been popped by then.
func (m *model) do(f *modelFrame, i api.Instr, ahead map[*modelObject]bool) {
	f.pc++
	switch i.Op {
	case api.Int:
		f.push(i.A)
	case api.Nil:
		f.push(nil)
	case api.Load:
		f.push(f.locals[i.A])
	case api.Store:
		f.locals[i.A] = f.pop()
	case api.Dup:
		v := f.pop()
		f.push(v)
		f.push(v)
	case api.Pop:
		f.pop()
	case api.Swap:
		y, x := f.pop(), f.pop()
		f.push(y)
		f.push(x)
	case api.Add, api.Sub, api.Mul, api.Less:
		m.doReckoning(f, i.Op)
	case api.Same:
		f.pushTruth(f.pop() == f.pop())
	case api.Jump:
		f.pc = i.A
	case api.JumpNot:
		if v := f.pop(); v == nil || v == 0 {
			f.pc = i.A
		}
	case api.Call, api.Return, api.Halt:
		m.doControl(f, i)
	case api.IsRef:
		f.pushTruth(kindOf(f.pop()) != api.Free)
	case api.Print:
		n, ok := f.pop().(int)
		m.output = append(m.output, n)
		if !ok {
			m.state = api.BadKind
		} else if len(m.output) > api.MaxOutput {
			m.state = api.OutFull
		}
	default:
		m.doObject(f, i, ahead)
	}
}

func (m *model) doReckoning(f *modelFrame, op int) {
	y, ok := f.pop().(int)
	x, okX := f.pop().(int)
	if !ok || !okX {
		m.state = api.BadKind
		return
	}
	switch op {
	case api.Add:
		f.push(x + y)
	case api.Sub:
		f.push(x - y)
	case api.Mul:
		f.push(x * y)
	case api.Less:
		f.pushTruth(x < y)
	}
}

func (m *model) doControl(f *modelFrame, i api.Instr) {
	switch i.Op {
	case api.Call:
		if len(m.frames) == api.MaxFrames {
			m.state = api.TooDeep
			return
		}
		f.pc--
		params := make([]any, m.program.Funcs[i.A].Params)
		for n := len(params) - 1; n >= 0; n-- {
			params[n] = f.pop()
		}
		m.call(i.A, params)
	case api.Return:
		v := f.pop()
		m.frames = m.frames[:len(m.frames)-1]
		if len(m.frames) == 0 {
			m.state = api.Halted
			return
		}
		below := m.frames[len(m.frames)-1]
		below.pc++
		below.push(v)
	case api.Halt:
		m.frames = nil
		m.state = api.Halted
	}
}

func (m *model) doObject(f *modelFrame, i api.Instr, ahead map[*modelObject]bool) {
	switch i.Op {
	case api.Record:
		m.make(f, &modelObject{api.RecordObject, make([]any, i.A)}, ahead)
	case api.Array:
		n, ok := f.pop().(int)
		if !ok {
			m.state = api.BadKind
		} else if n < 0 || n > api.MaxArray {
			m.state = api.BadSize
		} else {
			m.make(f, &modelObject{api.ArrayObject, make([]any, n)}, ahead)
		}
	case api.Weak:
		v := f.pop()
		if kindOf(v) == api.Free {
			m.state = api.BadKind
			return
		}
		m.make(f, &modelObject{api.WeakObject, []any{v}}, ahead)
	case api.Get:
		m.entry(f, f.pop(), api.RecordObject, i.A)
	case api.Put:
		v, r := f.pop(), f.pop()
		m.setEntry(r, api.RecordObject, i.A, v)
	case api.At:
		n, a := f.pop(), f.pop()
		m.entry(f, a, api.ArrayObject, n)
	case api.Set:
		v, n, a := f.pop(), f.pop(), f.pop()
		m.setEntry(a, api.ArrayObject, n, v)
	case api.Len:
		v := f.pop()
		if k := kindOf(v); k != api.RecordObject && k != api.ArrayObject {
			m.state = api.BadKind
			return
		}
		f.push(len(v.(*modelObject).values))
	case api.Strong:
		v := f.pop()
		if kindOf(v) != api.WeakObject {
			m.state = api.BadKind
			return
		}
		of := v.(*modelObject).values[0]
		if o, ok := of.(*modelObject); !ok || !ahead[o] {
			of = nil
		}
		f.push(of)
	}
}

func (m *model) make(f *modelFrame, o *modelObject, ahead map[*modelObject]bool) {
	if len(ahead) == len(m.slots) {
		m.state = api.HeapFull
		return
	}
	if !slices.Contains(m.slots, nil) {
		m.free(ahead)
	}
	m.slots[m.slotFor()] = o
	f.push(o)
}

// slotFor takes the first draw away, if there is one; the rest of a division is math/big's.
func (m *model) slotFor() int {
	least := slices.Index(m.slots, nil)
	if len(m.draws) == 0 {
		return least
	}
	size := big.NewInt(int64(len(m.slots)))
	slot := new(big.Int).Mod(big.NewInt(int64(m.draws[0])), size).Int64()
	m.draws = m.draws[1:]
	if m.slots[slot] != nil {
		return least
	}
	return int(slot)
}

// draw tells whether there was room for the draws.
func (m *model) draw(l []int) bool {
	all := slices.Concat(m.draws, l)
	if len(all) > api.MaxDraws {
		return false
	}
	m.draws = all
	return true
}

// free tells how many objects it freed.
func (m *model) free(alive map[*modelObject]bool) int {
	freed := 0
	for i, o := range m.slots {
		if o != nil && !alive[o] {
			m.slots[i] = nil
			freed++
		} else if o != nil && o.kind == api.WeakObject && o.values[0] != nil && !alive[o.values[0].(*modelObject)] {
			o.values[0] = nil
		}
	}
	return freed
}

func (m *model) reach(v any, kind int, n any) bool {
	if kindOf(v) != kind || !isNumber(n) {
		m.state = api.BadKind
	} else if n.(int) < 0 || n.(int) >= len(v.(*modelObject).values) {
		m.state = api.BadIndex
	}
	return m.state == api.Running
}

func (m *model) entry(f *modelFrame, v any, kind int, n any) {
	if m.reach(v, kind, n) {
		f.push(v.(*modelObject).values[n.(int)])
	}
}

func (m *model) setEntry(v any, kind int, n, to any) {
	if m.reach(v, kind, n) {
		v.(*modelObject).values[n.(int)] = to
	}
}

// told is what toldMachine tells of the machine that is like the model.
func (m *model) told() string {
	value := func(v any) string {
		switch x := v.(type) {
		case int:
			return fmt.Sprint(x)
		case *modelObject:
			return fmt.Sprint("#", slices.Index(m.slots, x))
		}
		return "nil"
	}
	all := func(l []any) string {
		var s []string
		for _, v := range l {
			s = append(s, value(v))
		}
		return strings.Join(s, " ")
	}
	taken := 0
	var slots, frames []string
	for _, o := range m.slots {
		if o == nil {
			slots = append(slots, "-")
			continue
		}
		taken++
		slots = append(slots, fmt.Sprintf("%c[%s]", "-raw"[o.kind], all(o.values)))
	}
	for _, f := range m.frames {
		frames = append(frames, fmt.Sprintf("%d@%d[%s|%s]", f.function, f.pc, all(f.locals), all(f.stack)))
	}
	return fmt.Sprintf("%v; %v; %s; %s", api.Status{State: m.state, Objects: taken, Draws: len(m.draws)}, m.output, strings.Join(frames, " "), strings.Join(slots, " "))
}
