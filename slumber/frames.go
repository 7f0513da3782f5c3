package slumber

import (
	"slices"

	"slumber/api"
)

// frames is the stack of frames; the last one runs.
type frames struct {
	called []api.Frame
}

func (s *frames) running() *api.Frame { return &s.called[len(s.called)-1] }

// top tells the n values at the top of the running frame's stack, the deepest first, and leaves them there.
func (s *frames) top(n int) []api.Value {
	l := s.running().Stack
	return l[len(l)-n:]
}

func (s *frames) drop(n int) {
	f := s.running()
	f.Stack = f.Stack[:len(f.Stack)-n]
}

// goOn ends an operation of which the following one comes next.
func (s *frames) goOn(pops int, pushed ...api.Value) {
	s.drop(pops)
	f := s.running()
	f.Stack = append(f.Stack, pushed...)
	f.Pc++
}

// goTo ends an operation that jumps.
func (s *frames) goTo(pops, pc int) {
	s.drop(pops)
	s.running().Pc = pc
}

// enter adds a frame of f, which is the function of that number.
func (s *frames) enter(number int, f api.Func, params []api.Value) {
	locals := make([]api.Value, f.Locals)
	copy(locals, params)
	s.called = append(s.called, api.Frame{Func: number, Locals: locals})
}

// leave drops the running frame. The one below, if there is one, has waited at its Call, and goes on with the value.
func (s *frames) leave(v api.Value) {
	s.called = s.called[:len(s.called)-1]
	if len(s.called) > 0 {
		s.goOn(0, v)
	}
}

func (s *frames) leaveAll() { s.called = nil }

// ofFrames are the lists of values of the frames, the first frame first, in each the locals and then the stack.
func (s *frames) ofFrames() [][]api.Value {
	var l [][]api.Value
	for _, f := range s.called {
		l = append(l, f.Locals, f.Stack)
	}
	return l
}

func (s *frames) values() []api.Value { return slices.Concat(s.ofFrames()...) }

func (s *frames) copyFrames() []api.Frame {
	l := slices.Clone(s.called)
	for i := range l {
		l[i].Locals = slices.Clone(l[i].Locals)
		l[i].Stack = slices.Clone(l[i].Stack)
	}
	return l
}
