package slumber_test

import (
	"math"
	"testing"

	"slumber/api"
	"slumber/slumber"
)

func in(op, a int) api.Instr { return api.Instr{Op: op, A: a} }

// plain is an instruction whose A says nothing.
func plain(op int) api.Instr { return in(op, 0) }

// code joins instructions and runs of them.
func code(parts ...[]api.Instr) []api.Instr {
	var all []api.Instr
	for _, l := range parts {
		all = append(all, l...)
	}
	return all
}

func one(i api.Instr) []api.Instr { return []api.Instr{i} }

func many(n int, i api.Instr) []api.Instr {
	var l []api.Instr
	for range n {
		l = append(l, i)
	}
	return l
}

func halts() []api.Instr { return one(plain(api.Halt)) }

// alone is a program of one function without locals.
func alone(l ...api.Instr) api.Program {
	return api.Program{Funcs: []api.Func{{Code: l}}}
}

func program(l ...api.Func) api.Program { return api.Program{Funcs: l} }

// afterHalts is a program of n functions that only halt, and those of l behind them.
func afterHalts(n int, l ...api.Func) api.Program {
	var p api.Program
	for range n {
		p.Funcs = append(p.Funcs, api.Func{Code: halts()})
	}
	p.Funcs = append(p.Funcs, l...)
	return p
}

func wantCheck(t *testing.T, name string, p api.Program, want api.Errno, wantAt int) {
	t.Helper()
	if e, at := slumber.Check(p); e != want || at != wantAt {
		t.Errorf("P3: %s: Check = %d, %d, want %d, %d", name, e, at, want, wantAt)
	}
}

func TestCheckTakesOrdinaryPrograms(t *testing.T) {
	wantCheck(t, "print a number", alone(in(api.Int, 7), plain(api.Print), plain(api.Halt)), api.OK, 0)
	countDown := api.Func{Locals: 1, Code: []api.Instr{
		in(api.Int, 3), in(api.Store, 0),
		in(api.Load, 0), in(api.JumpNot, 10),
		in(api.Load, 0), plain(api.Print),
		in(api.Load, 0), in(api.Int, 1), plain(api.Sub), in(api.Jump, 1),
		plain(api.Halt),
	}}
	wantCheck(t, "a loop", program(countDown), api.OK, 0)
	factorial := api.Func{Params: 1, Locals: 1, Code: []api.Instr{
		in(api.Load, 0), in(api.JumpNot, 8),
		in(api.Load, 0), in(api.Load, 0), in(api.Int, 1), plain(api.Sub), in(api.Call, 1),
		in(api.Jump, 10),
		in(api.Int, 1), plain(api.Return),
		plain(api.Mul), plain(api.Return),
	}}
	main := api.Func{Code: []api.Instr{in(api.Int, 5), in(api.Call, 1), plain(api.Print), plain(api.Halt)}}
	wantCheck(t, "a function that calls itself", program(main, factorial), api.OK, 0)
}

func TestCheckExamples(t *testing.T) {
	wantCheck(t, "no functions", program(), api.ErrSize, 0)
	wantCheck(t, "no instructions", alone(), api.ErrSize, 0)
	wantCheck(t, "Load 0 without locals", alone(in(api.Load, 0)), api.ErrCode, 0)
	wantCheck(t, "Int 1, Jump 0", alone(in(api.Int, 1), in(api.Jump, 0)), api.ErrHeight, 0)
	wantCheck(t, "Pop, Halt", alone(plain(api.Pop), plain(api.Halt)), api.ErrHeight, 0)
	wantCheck(t, "Int 1", alone(in(api.Int, 1)), api.ErrHeight, 0)
	wantCheck(t, "Int 1, Pop", alone(in(api.Int, 1), plain(api.Pop)), api.ErrHeight, 0)
	wantCheck(t, "Halt, Pop", alone(plain(api.Halt), plain(api.Pop)), api.OK, 0)
}

func TestCheckCountsFunctions(t *testing.T) {
	wantCheck(t, "nil functions", api.Program{}, api.ErrSize, 0)
	wantCheck(t, "1 function", afterHalts(1), api.OK, 0)
	wantCheck(t, "MaxFuncs functions", afterHalts(api.MaxFuncs), api.OK, 0)
	wantCheck(t, "one function too many", afterHalts(api.MaxFuncs+1), api.ErrSize, 0)
	wantCheck(t, "many functions", afterHalts(1000), api.ErrSize, 0)
}

func TestCheckLooksAtSizes(t *testing.T) {
	for _, c := range []struct {
		name string
		f    api.Func
		fits bool
	}{
		{"nil instructions", api.Func{}, false},
		{"no instructions", api.Func{Code: []api.Instr{}}, false},
		{"1 instruction", api.Func{Code: halts()}, true},
		{"MaxCode instructions", api.Func{Code: many(api.MaxCode, plain(api.Halt))}, true},
		{"one instruction too many", api.Func{Code: many(api.MaxCode+1, plain(api.Halt))}, false},
		{"MaxLocals", api.Func{Locals: api.MaxLocals, Code: halts()}, true},
		{"one local too many", api.Func{Locals: api.MaxLocals + 1, Code: halts()}, false},
		{"-1 locals", api.Func{Locals: -1, Code: halts()}, false},
		{"-1 locals and parameters", api.Func{Params: -1, Locals: -1, Code: halts()}, false},
		{"the most locals that an int tells", api.Func{Locals: math.MaxInt, Code: halts()}, false},
		{"the fewest locals that an int tells", api.Func{Locals: math.MinInt, Code: halts()}, false},
	} {
		want := api.ErrSize
		if c.fits {
			want = api.OK
		}
		wantCheck(t, c.name+", function 0", program(c.f), want, 0)
		at := 0
		if !c.fits {
			at = 3
		}
		wantCheck(t, c.name+", function 3", afterHalts(3, c.f, api.Func{Code: halts()}), want, at)
	}
}

func TestCheckLooksAtParams(t *testing.T) {
	for _, c := range []struct {
		params, locals int
		fits           bool
	}{
		{0, 0, true}, {1, 1, true}, {0, 1, true}, {1, 2, true}, {0, api.MaxLocals, true}, {api.MaxLocals, api.MaxLocals, true},
		{1, 0, false}, {2, 1, false}, {-1, 0, false}, {-1, api.MaxLocals, false}, {api.MaxLocals, api.MaxLocals - 1, false},
		{api.MaxLocals + 1, api.MaxLocals, false}, {api.MaxLocals + 1, api.MaxLocals + 1, false}, {math.MaxInt, math.MaxInt, false}, {math.MinInt, 0, false},
	} {
		f := api.Func{Params: c.params, Locals: c.locals, Code: halts()}
		if c.fits {
			wantCheck(t, "parameters that fit", afterHalts(1, f), api.OK, 0)
		} else {
			wantCheck(t, "parameters that do not fit", afterHalts(1, f), api.ErrSize, 1)
		}
		if c.params == 0 {
			wantCheck(t, "function 0 without parameters", program(f), api.OK, 0)
		} else {
			wantCheck(t, "function 0 with parameters", program(f, api.Func{Code: halts()}), api.ErrSize, 0)
		}
	}
}

// rule is what the document's table says of an operation, in a function of 3 locals and 5 instructions, one of 4 functions; function 3 has 2 parameters.
type rule struct {
	op, least, greatest, pops, pushes int
}

func rules() []rule {
	return []rule{
		{api.Int, math.MinInt, math.MaxInt, 0, 1},
		{api.Nil, 0, 0, 0, 1},
		{api.Load, 0, 2, 0, 1},
		{api.Store, 0, 2, 1, 0},
		{api.Dup, 0, 0, 1, 2},
		{api.Pop, 0, 0, 1, 0},
		{api.Swap, 0, 0, 2, 2},
		{api.Add, 0, 0, 2, 1},
		{api.Sub, 0, 0, 2, 1},
		{api.Mul, 0, 0, 2, 1},
		{api.Less, 0, 0, 2, 1},
		{api.Same, 0, 0, 2, 1},
		{api.Jump, 0, 4, 0, 0},
		{api.JumpNot, 0, 4, 1, 0},
		{api.Call, 0, 3, 2, 1},
		{api.Return, 0, 0, 1, 0},
		{api.Record, 0, api.MaxRecord, 0, 1},
		{api.Array, 0, 0, 1, 1},
		{api.Weak, 0, 0, 1, 1},
		{api.Get, 0, api.MaxRecord - 1, 1, 1},
		{api.Put, 0, api.MaxRecord - 1, 2, 0},
		{api.At, 0, 0, 2, 1},
		{api.Set, 0, 0, 3, 0},
		{api.Len, 0, 0, 1, 1},
		{api.Strong, 0, 0, 1, 1},
		{api.IsRef, 0, 0, 1, 1},
		{api.Print, 0, 0, 1, 0},
		{api.Halt, 0, 0, 0, 0},
	}
}

// goesOn: what comes behind these is the instruction that follows.
func (r rule) goesOn() bool {
	return r.op != api.Jump && r.op != api.JumpNot && r.op != api.Return && r.op != api.Halt
}

// among4 lays a function of 3 locals among three others.
func among4(l []api.Instr) api.Program {
	return program(
		api.Func{Locals: 3, Code: l},
		api.Func{Code: halts()},
		api.Func{Code: halts()},
		api.Func{Params: 2, Locals: 2, Code: halts()},
	)
}

func TestRulesNameEveryOperation(t *testing.T) {
	l := rules()
	if len(l) != api.Ops {
		t.Fatalf("%d rules, want %d", len(l), api.Ops)
	}
	for i, r := range l {
		if r.op != i {
			t.Errorf("rule %d is of the operation %d", i, r.op)
		}
	}
}

func TestCheckLooksAtA(t *testing.T) {
	// Nothing comes to the instruction that is asked for, so its height does not matter.
	with := func(op, a int) api.Program {
		return among4([]api.Instr{plain(api.Halt), plain(api.Halt), plain(api.Halt), in(op, a), plain(api.Halt)})
	}
	for _, r := range rules() {
		wantCheck(t, "the first A", with(r.op, r.least), api.OK, 0)
		wantCheck(t, "the last A", with(r.op, r.greatest), api.OK, 0)
		if r.op == api.Int {
			wantCheck(t, "an A between", with(r.op, 0), api.OK, 0)
			continue
		}
		for _, a := range []int{r.least - 1, r.greatest + 1, math.MinInt, math.MaxInt, 1 << 32, -1 << 32} {
			if e, at := slumber.Check(with(r.op, a)); e != api.ErrCode || at != 3 {
				t.Errorf("P3: operation %d, A %d: Check = %d, %d, want ErrCode, 3", r.op, a, e, at)
			}
		}
	}
}

func TestCheckRefusesWhatIsNoOperation(t *testing.T) {
	for _, op := range []int{-1, api.Ops, api.Ops + 1, 256, 256 + api.Halt, 1 << 32, 1<<32 + api.Halt, math.MaxInt, math.MinInt} {
		wantCheck(t, "no operation, come to", alone(plain(op)), api.ErrCode, 0)
		wantCheck(t, "no operation, not come to", alone(plain(api.Halt), plain(op)), api.ErrCode, 1)
	}
}

func TestCheckAsksAOfItsOwnFunction(t *testing.T) {
	short := api.Func{Code: halts()}
	long := api.Func{Locals: 2, Code: []api.Instr{plain(api.Halt), in(api.Load, 1), in(api.Jump, 3), plain(api.Halt)}}
	wantCheck(t, "the longer function's own", program(short, long), api.OK, 0)
	short.Code = []api.Instr{plain(api.Halt), in(api.Load, 0)}
	wantCheck(t, "another function's local", program(short, long), api.ErrCode, 1)
	short.Code = []api.Instr{plain(api.Halt), in(api.Jump, 3)}
	wantCheck(t, "another function's instruction", program(long, short), api.ErrCode, 1001)
}

func TestCheckTellsTheInstruction(t *testing.T) {
	wrongAt := func(pc int) api.Func {
		f := api.Func{Code: many(api.MaxCode, plain(api.Halt))}
		f.Code[pc].A = 1
		return f
	}
	last := api.MaxCode - 1
	wantCheck(t, "the last instruction of function 0", program(wrongAt(last)), api.ErrCode, last)
	wantCheck(t, "the first instruction of function 1", afterHalts(1, wrongAt(0)), api.ErrCode, 1000)
	wantCheck(t, "the last instruction of the last function", afterHalts(api.MaxFuncs-1, wrongAt(last)), api.ErrCode, 1000*(api.MaxFuncs-1)+last)
	two := wrongAt(20)
	two.Code[10].Op = api.Ops
	wantCheck(t, "the first of two in one function", program(two), api.ErrCode, 10)
	wantCheck(t, "the first of two functions", afterHalts(2, wrongAt(30), wrongAt(0)), api.ErrCode, 2030)
}

// atHeight is a program in which the operation is come to at a height, with what follows it.
func atHeight(r rule, height int, follow ...[]api.Instr) api.Program {
	i := in(r.op, r.least)
	if r.op == api.Call {
		i.A = r.greatest
	}
	if r.op == api.Jump || r.op == api.JumpNot {
		i.A = height + 1
	}
	return among4(code(many(height, plain(api.Nil)), one(i), code(follow...)))
}

func TestCheckCountsPops(t *testing.T) {
	for _, r := range rules() {
		wantCheck(t, "as many as it pops", atHeight(r, r.pops, halts()), api.OK, 0)
		if r.pops > 0 {
			if e, at := slumber.Check(atHeight(r, r.pops-1, halts())); e != api.ErrHeight || at != 0 {
				t.Errorf("P3: operation %d with one value too few: Check = %d, %d, want ErrHeight, 0", r.op, e, at)
			}
		}
	}
}

func TestCheckCountsPushes(t *testing.T) {
	for _, r := range rules() {
		if r.op == api.Return || r.op == api.Halt {
			wantCheck(t, "nothing comes next", atHeight(r, r.pops, one(plain(api.Pop))), api.OK, 0)
			continue
		}
		behind := 2 + r.pushes
		all := atHeight(r, 2+r.pops, many(behind, plain(api.Pop)), halts())
		wantCheck(t, "all that is there is popped", all, api.OK, 0)
		more := atHeight(r, 2+r.pops, many(behind+1, plain(api.Pop)), halts())
		if e, at := slumber.Check(more); e != api.ErrHeight || at != 0 {
			t.Errorf("P3: behind operation %d: Check = %d, %d, want ErrHeight, 0", r.op, e, at)
		}
	}
}

func TestCheckKeepsToMaxHeight(t *testing.T) {
	for _, r := range rules() {
		more := r.pushes - r.pops
		if more <= 0 {
			wantCheck(t, "ahead of it all that there may be", atHeight(r, api.MaxHeight, halts()), api.OK, 0)
			continue
		}
		wantCheck(t, "behind it all that there may be", atHeight(r, api.MaxHeight-more, halts()), api.OK, 0)
		// What follows is not come to with too much: the height behind the operation itself counts.
		wantCheck(t, "behind it one too many", atHeight(r, api.MaxHeight-more+1, one(plain(api.Pop)), halts()), api.ErrHeight, 0)
	}
}

func TestCheckOfCallsGoesByTheirParams(t *testing.T) {
	for params := range api.MaxLocals + 1 {
		called := api.Func{Params: params, Locals: api.MaxLocals, Code: halts()}
		with := func(height int) api.Program {
			return program(api.Func{Code: code(many(height, plain(api.Nil)), one(in(api.Call, 1)), one(plain(api.Pop)), halts())}, called)
		}
		wantCheck(t, "as many as there are parameters", with(params), api.OK, 0)
		if params > 0 {
			wantCheck(t, "one too few", with(params-1), api.ErrHeight, 0)
			wantCheck(t, "ahead of it MaxHeight", with(api.MaxHeight), api.OK, 0)
		} else {
			wantCheck(t, "behind it one too many", with(api.MaxHeight), api.ErrHeight, 0)
		}
	}
	wantCheck(t, "of itself", alone(in(api.Call, 0), plain(api.Pop), plain(api.Halt)), api.OK, 0)
	wantCheck(t, "behind a call of what never returns", afterHalts(1, api.Func{Code: []api.Instr{in(api.Call, 0), plain(api.Pop), plain(api.Pop), plain(api.Halt)}}), api.ErrHeight, 1)
}

func TestCheckFollowsEachWay(t *testing.T) {
	for _, c := range []struct {
		name string
		l    []api.Instr
		fits bool
	}{
		{"a Jump to itself", []api.Instr{in(api.Jump, 0)}, true},
		{"a Jump back to the same height", []api.Instr{plain(api.Nil), plain(api.Pop), in(api.Jump, 0)}, true},
		{"a Jump back to a lower height", []api.Instr{plain(api.Nil), plain(api.Nil), in(api.Jump, 1)}, false},
		{"a Jump back to a greater height", []api.Instr{plain(api.Nil), plain(api.Nil), plain(api.Pop), plain(api.Pop), in(api.Jump, 1)}, false},
		{"a Jump over a Pop", []api.Instr{in(api.Jump, 2), plain(api.Pop), plain(api.Halt)}, true},
		{"a Jump back over a Halt", []api.Instr{in(api.Jump, 2), plain(api.Halt), in(api.Jump, 1)}, true},
		{"a Jump as the last", []api.Instr{plain(api.Halt), in(api.Jump, 0)}, true},
		{"a JumpNot as the last", []api.Instr{plain(api.Nil), in(api.JumpNot, 0)}, false},
		{"a JumpNot to what follows", []api.Instr{plain(api.Nil), in(api.JumpNot, 2), plain(api.Halt)}, true},
		{"a JumpNot to itself", []api.Instr{plain(api.Nil), in(api.JumpNot, 1), plain(api.Halt)}, false},
		{"two ways of one height", []api.Instr{plain(api.Nil), in(api.JumpNot, 4), plain(api.Nil), in(api.Jump, 5), plain(api.Nil), plain(api.Return)}, true},
		{"two ways of two heights", []api.Instr{plain(api.Nil), in(api.JumpNot, 4), plain(api.Nil), plain(api.Nil), plain(api.Nil), plain(api.Return)}, false},
		{"two heights at a Halt", []api.Instr{plain(api.Nil), in(api.JumpNot, 3), plain(api.Nil), plain(api.Halt)}, false},
		{"a fault on the way that jumps", []api.Instr{plain(api.Nil), in(api.JumpNot, 3), plain(api.Halt), plain(api.Pop), plain(api.Halt)}, false},
		{"a fault on the way that goes on", []api.Instr{plain(api.Nil), in(api.JumpNot, 4), plain(api.Pop), plain(api.Halt), plain(api.Halt)}, false},
		{"past the last behind a Print", []api.Instr{plain(api.Nil), plain(api.Print)}, false},
		{"past the last behind a Call", []api.Instr{in(api.Call, 0)}, false},
		{"not come to: past the last", []api.Instr{plain(api.Halt), plain(api.Nil)}, true},
		{"not come to: too few values", []api.Instr{plain(api.Nil), plain(api.Return), plain(api.Set), plain(api.Halt)}, true},
		{"not come to: another height", []api.Instr{in(api.Jump, 3), plain(api.Nil), in(api.Jump, 3), plain(api.Halt)}, true},
		{"not come to: too many values", code(halts(), many(api.MaxHeight+1, plain(api.Nil)), halts()), true},
		{"a Return that leaves values", code(many(api.MaxHeight, plain(api.Nil)), one(plain(api.Return))), true},
		{"a Return of nothing", []api.Instr{plain(api.Return)}, false},
		{"MaxCode instructions, all come to", upAndDown(), true},
		{"MaxCode instructions, past the last", code(upAndDown()[:api.MaxCode-1], one(plain(api.Pop))), false},
	} {
		want := api.OK
		if !c.fits {
			want = api.ErrHeight
		}
		wantCheck(t, c.name, alone(c.l...), want, 0)
	}
}

// upAndDown has MaxCode instructions, each of which is come to.
func upAndDown() []api.Instr {
	var l []api.Instr
	for len(l)+2 < api.MaxCode {
		l = append(l, plain(api.Nil), plain(api.Pop))
	}
	return append(l, plain(api.Nil), plain(api.Return))
}

func TestCheckTellsTheFunctionThatDoesNotFit(t *testing.T) {
	wrong := api.Func{Code: one(plain(api.Pop))}
	for n := range api.MaxFuncs {
		wantCheck(t, "one that does not fit", afterHalts(n, wrong), api.ErrHeight, n)
	}
	wantCheck(t, "two that do not fit", afterHalts(2, wrong, wrong), api.ErrHeight, 2)
}

func TestCheckTellsTheErrorNamedFirst(t *testing.T) {
	size := api.Func{Locals: -1, Code: halts()}
	wrongCode := api.Func{Code: []api.Instr{plain(api.Halt), plain(api.Ops)}}
	height := api.Func{Code: one(plain(api.Pop))}
	wantCheck(t, "the number of functions, ahead of a function's size", afterHalts(api.MaxFuncs, size), api.ErrSize, 0)
	wantCheck(t, "the number of functions, ahead of a function's code", program(append([]api.Func{wrongCode}, afterHalts(api.MaxFuncs).Funcs...)...), api.ErrSize, 0)
	wantCheck(t, "a size ahead of a code and a height", program(height, wrongCode, size), api.ErrSize, 2)
	wantCheck(t, "a code ahead of a height", program(height, wrongCode), api.ErrCode, 1001)
	wantCheck(t, "a code ahead of a height in one function", program(api.Func{Code: []api.Instr{plain(api.Pop), in(api.Halt, 1)}}), api.ErrCode, 1)
	wantCheck(t, "a size ahead of a code in one function", program(api.Func{Params: 1, Locals: 1, Code: one(plain(-1))}), api.ErrSize, 0)
	wantCheck(t, "the first of two sizes", afterHalts(1, size, size), api.ErrSize, 1)
}
