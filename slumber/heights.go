package slumber

import "slumber/api"

// notComeTo is the height of an instruction that no way leads to.
const notComeTo = -1

// walk goes through one function along all its ways.
type walk struct {
	program api.Program
	code    []api.Instr
	heights []int
	todo    []int // come to, but not yet left
}

// heightsOf tells the height of each instruction of f, and whether f fits together. Sizes and instructions must have been checked.
func heightsOf(p api.Program, f api.Func) ([]int, bool) {
	w := walk{program: p, code: f.Code, heights: make([]int, len(f.Code))}
	for pc := range w.heights {
		w.heights[pc] = notComeTo
	}
	fits := w.come(0, 0)
	for fits && len(w.todo) > 0 {
		last := len(w.todo) - 1
		pc := w.todo[last]
		w.todo = w.todo[:last]
		fits = w.leave(pc)
	}
	if !fits {
		return nil, false
	}
	return w.heights, true
}

// come notes the height at which a way leads to pc. An instruction is to be left once only, so the walk ends.
func (w *walk) come(pc, height int) bool {
	if pc >= len(w.code) {
		return false
	}
	if w.heights[pc] == notComeTo {
		w.heights[pc] = height
		w.todo = append(w.todo, pc)
	}
	return w.heights[pc] == height
}

// leave goes on from pc, all the ways that there are.
func (w *walk) leave(pc int) bool {
	in := w.code[pc]
	rest := w.heights[pc] - popsOf(w.program, in)
	behind := rest + operations[in.Op].pushes
	if rest < 0 || behind > api.MaxHeight {
		return false
	}
	switch operations[in.Op].next {
	case onward:
		return w.come(pc+1, behind)
	case away:
		return w.come(in.A, behind)
	case eitherWay:
		return w.come(pc+1, behind) && w.come(in.A, behind)
	}
	return true
}
