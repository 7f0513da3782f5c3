package slumber

import "slumber/api"

// placeStep is what a function's number is multiplied by in the place of an instruction.
const placeStep = 1000

// check looks at all sizes ahead of all instructions, and at these ahead of all heights: each look leans on the one ahead of it.
func check(p api.Program) (api.Errno, int) {
	if at, ok := checkSizes(p); !ok {
		return api.ErrSize, at
	}
	if at, ok := checkCode(p); !ok {
		return api.ErrCode, at
	}
	if at, ok := checkHeights(p); !ok {
		return api.ErrHeight, at
	}
	return api.OK, 0
}

func checkSizes(p api.Program) (int, bool) {
	if !within(len(p.Funcs), 1, api.MaxFuncs) {
		return 0, false
	}
	for i, f := range p.Funcs {
		if !sizesFit(f) || i == 0 && f.Params != 0 {
			return i, false
		}
	}
	return 0, true
}

func sizesFit(f api.Func) bool {
	return within(len(f.Code), 1, api.MaxCode) &&
		within(f.Locals, 0, api.MaxLocals) &&
		within(f.Params, 0, f.Locals)
}

func checkCode(p api.Program) (int, bool) {
	for i, f := range p.Funcs {
		for pc, in := range f.Code {
			if !instrFits(p, f, in) {
				return placeStep*i + pc, false
			}
		}
	}
	return 0, true
}

func instrFits(p api.Program, f api.Func, in api.Instr) bool {
	return within(in.Op, 0, api.Ops-1) && operations[in.Op].takes(p, f, in.A)
}

func checkHeights(p api.Program) (int, bool) {
	for i, f := range p.Funcs {
		if _, ok := heightsOf(p, f); !ok {
			return i, false
		}
	}
	return 0, true
}
