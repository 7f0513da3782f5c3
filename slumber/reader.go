package slumber

import (
	"math"
	"slices"

	"slumber/api"
)

// reader reads an image of some version. What it reads behind a fault says nothing, but is safe to go on with.
type reader struct {
	cursor
	version version
}

// upTo reads a number that may not be above most.
func (r *reader) upTo(most int) int {
	n := r.version.number(r)
	r.must(n <= uint64(most))
	if r.fault {
		return 0
	}
	return int(n)
}

// count reads a number that something else will judge.
func (r *reader) count() int { return r.upTo(math.MaxInt) }

func (r *reader) signed() int { return r.version.signed(r) }

// listOf reads n entries one by one, and makes no room for them ahead: n may be any number, and the bytes end long before.
func listOf[T any](r *reader, n int, entry func() T) []T {
	var l []T
	for len(l) < n && !r.fault {
		l = append(l, entry())
	}
	return l
}

// value reads a value; whether there is such an object is asked when all of them have been read.
func (r *reader) value() api.Value {
	switch *r.next() {
	case api.NilValue:
		return api.Value{}
	case api.IntValue:
		return number(r.signed())
	case api.RefValue:
		return reference(r.count())
	}
	r.must(false)
	return api.Value{}
}

func (r *reader) values(n int) []api.Value { return listOf(r, n, r.value) }

func (r *reader) program() api.Program {
	p := api.Program{Funcs: listOf(r, r.count(), r.function)}
	e, _ := check(p)
	r.must(e == api.OK)
	return p
}

func (r *reader) function() api.Func {
	f := api.Func{Params: r.count(), Locals: r.count()}
	f.Code = listOf(r, r.count(), r.instruction)
	return f
}

func (r *reader) instruction() api.Instr {
	in := api.Instr{Op: r.count(), A: r.signed()}
	r.must(r.version.hasOperation(in.Op))
	return in
}

// frames reads the frames. The first is of function 0, and each says which function the next one is of. Of a program that Check refuses none is read: that is a fault, and behind it all numbers are 0.
func (r *reader) frames(p api.Program) []api.Frame {
	var l []api.Frame
	called := 0
	for left := r.upTo(api.MaxFrames); left > 0 && !r.fault; left-- {
		f := r.frame(p, called, left > 1)
		l = append(l, f)
		called = p.Funcs[called].Code[f.Pc].A
	}
	return l
}

// frame reads a frame, which must be of the called function. One that waits is at a Call, and what it handed over is off its stack.
func (r *reader) frame(p api.Program, called int, waits bool) api.Frame {
	function := p.Funcs[called]
	r.must(r.count() == called)
	pc := r.upTo(len(function.Code) - 1)
	heights, _ := heightsOf(p, function)
	height := heights[pc]
	r.must(height != notComeTo)
	if waits {
		in := function.Code[pc]
		r.must(in.Op == api.Call)
		height -= popsOf(p, in)
	}
	return api.Frame{Func: called, Pc: pc, Locals: r.values(function.Locals), Stack: r.values(height)}
}

func (r *reader) objects() []api.Object { return listOf(r, r.upTo(api.MaxCapacity), r.object) }

func (r *reader) object() api.Object {
	kind := r.upTo(api.WeakObject)
	r.must(r.version.hasKind(kind))
	o := api.Object{Kind: uint8(kind), Fields: r.values(r.size(kind))}
	r.must(kind != api.WeakObject || !slices.ContainsFunc(o.Fields, isInt))
	return o
}

// size tells how many values an object has; of a weak one it does not stand in the image.
func (r *reader) size(kind int) int {
	switch kind {
	case api.RecordObject:
		return r.upTo(api.MaxRecord)
	case api.ArrayObject:
		return r.upTo(api.MaxArray)
	case api.WeakObject:
		return 1
	}
	r.must(false)
	return 0
}

// machine reads a machine that is packed.
func (r *reader) machine() *Machine {
	m := &Machine{program: r.program()}
	m.state = r.upTo(api.OutFull)
	m.output = r.version.output(r)
	m.called = r.frames(m.program)
	r.must((m.state == api.Halted) == (len(m.called) == 0))
	m.slots = r.objects()
	r.must(r.atEnd())
	r.must(m.isPacked())
	return m
}
