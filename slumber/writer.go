package slumber

import "slumber/api"

// writer writes an image, of version 2 always.
type writer struct {
	cursor
}

// newWriter has room for the longest image that may be woken; that of every machine is shorter, by the limits of all its parts.
func newWriter() *writer { return &writer{cursor{bytes: make([]byte, api.MaxImage)}} }

func (w *writer) put(l ...byte) {
	for _, b := range l {
		*w.next() = b
	}
}

func (w *writer) number(n uint64) {
	for n >= moreFollows {
		w.put(byte(n) | moreFollows)
		n >>= bitsAByte
	}
	w.put(byte(n))
}

func (w *writer) count(n int) { w.number(uint64(n)) }

// signed: that an int is less than 0 is told by the lowest bit, so that small ones are short whatever their sign.
func (w *writer) signed(n int) {
	if n < 0 {
		w.number(2*uint64(-1-n) + 1)
		return
	}
	w.number(2 * uint64(n))
}

func (w *writer) value(v api.Value) {
	w.put(v.Kind)
	switch v.Kind {
	case api.IntValue:
		w.signed(v.N)
	case api.RefValue:
		w.count(v.N)
	}
}

func (w *writer) values(l []api.Value) {
	for _, v := range l {
		w.value(v)
	}
}

func (w *writer) program(p api.Program) {
	w.count(len(p.Funcs))
	for _, f := range p.Funcs {
		w.count(f.Params)
		w.count(f.Locals)
		w.count(len(f.Code))
		for _, in := range f.Code {
			w.count(in.Op)
			w.signed(in.A)
		}
	}
}

func (w *writer) output(l []int) {
	w.count(len(l))
	for _, n := range l {
		w.signed(n)
	}
}

// frames does not tell how many values are on a stack: the heights tell it.
func (w *writer) frames(l []api.Frame) {
	w.count(len(l))
	for _, f := range l {
		w.count(f.Func)
		w.count(f.Pc)
		w.values(f.Locals)
		w.values(f.Stack)
	}
}

func (w *writer) objects(l []api.Object) {
	w.count(len(l))
	for _, o := range l {
		w.count(int(o.Kind))
		if o.Kind != api.WeakObject {
			w.count(len(o.Fields))
		}
		w.values(o.Fields)
	}
}

// machine writes a machine that is packed.
func (w *writer) machine(m *Machine) {
	w.program(m.program)
	w.count(m.state)
	w.output(m.output)
	w.frames(m.called)
	w.objects(m.slots)
}
