package slumber_test

import (
	"math"
	"reflect"
	"sync"
	"testing"

	"slumber/api"
	"slumber/slumber"
)

func fitsByStates(p api.Program, f api.Func) bool {
	_, ok := heightsByStates(p, f)
	return ok
}

// heightsByStates tells the heights of the instructions that are come to, and whether the function fits together, by the set of all instructions with heights that there can be: another road than a walk that notes one height for each.
func heightsByStates(p api.Program, f api.Func) (map[int]int, bool) {
	type state struct{ pc, height int }
	seen := map[state]bool{{0, 0}: true}
	all := rules()
	for todo := []state{{0, 0}}; len(todo) > 0; {
		s := todo[0]
		todo = todo[1:]
		i := f.Code[s.pc]
		r := all[i.Op]
		if i.Op == api.Call {
			r.pops = p.Funcs[i.A].Params
		}
		behind := s.height - r.pops + r.pushes
		if s.height < r.pops || behind > api.MaxHeight {
			return nil, false
		}
		var next []int
		if i.Op == api.Jump || i.Op == api.JumpNot {
			next = append(next, i.A)
		}
		if r.goesOn() || i.Op == api.JumpNot {
			next = append(next, s.pc+1)
		}
		for _, pc := range next {
			if pc == len(f.Code) {
				return nil, false
			}
			if to := (state{pc, behind}); !seen[to] {
				seen[to] = true
				todo = append(todo, to)
			}
		}
	}
	heights := map[int]int{}
	for s := range seen {
		if _, ok := heights[s.pc]; ok {
			return nil, false
		}
		heights[s.pc] = s.height
	}
	return heights, true
}

// choices are instructions of each shape that a function of n instructions may have.
func choices(n int) []api.Instr {
	l := []api.Instr{plain(api.Nil), plain(api.Dup), plain(api.Pop), plain(api.Add), plain(api.Return), plain(api.Halt), in(api.Call, 0), in(api.Call, 1)}
	for pc := range n {
		l = append(l, in(api.Jump, pc), in(api.JumpNot, pc))
	}
	return l
}

// TestCheckOfAllShortFunctions holds Check against fitsByStates for every function of up to four such instructions.
func TestCheckOfAllShortFunctions(t *testing.T) {
	two := api.Func{Params: 2, Locals: 2, Code: halts()}
	fitting := 0
	for n := 1; n <= 4; n++ {
		l := choices(n)
		at := make([]int, n)
		for more := true; more; {
			f := api.Func{Code: make([]api.Instr, n)}
			for pc, c := range at {
				f.Code[pc] = l[c]
			}
			p := program(f, two)
			want := api.ErrHeight
			if fitsByStates(p, f) {
				want = api.OK
				fitting++
			}
			if e, place := slumber.Check(p); e != want || place != 0 {
				t.Fatalf("P3: %v: Check = %d, %d, want %d, 0", f.Code, e, place, want)
			}
			more = nextChoice(at, len(l))
		}
	}
	if fitting == 0 {
		t.Fatal("no function fits together: nothing has been tested")
	}
}

// nextChoice counts at up by one, and tells whether it has not come round.
func nextChoice(at []int, n int) bool {
	for i := range at {
		at[i]++
		if at[i] < n {
			return true
		}
		at[i] = 0
	}
	return false
}

// TestCheckEndsAtWildPrograms: P1. What there is besides a wild number is a program that Check takes.
func TestCheckEndsAtWildPrograms(t *testing.T) {
	wild := []int{math.MinInt, math.MinInt + 1, math.MinInt32, -1, 0, 1, 2, api.Ops - 1, api.Ops, 255, 256, math.MaxInt32, math.MaxUint32, math.MaxInt - 1, math.MaxInt}
	for _, x := range wild {
		for _, y := range wild {
			wantAnswer(t, program(api.Func{Code: halts()}, api.Func{Params: x, Locals: y, Code: halts()}))
			wantAnswer(t, program(api.Func{Params: x, Locals: y, Code: one(in(api.Call, 0))}))
			wantAnswer(t, alone(in(x, y)))
			wantAnswer(t, alone(plain(api.Nil), in(x, y), plain(api.Halt)))
			wantAnswer(t, afterHalts(7, api.Func{Code: []api.Instr{plain(api.Halt), in(y, x)}}))
		}
	}
	wantAnswer(t, alone(make([]api.Instr, 100000)...))
	wantAnswer(t, program(make([]api.Func, 100000)...))
}

// wantAnswer asks for an answer that Check can give at all.
func wantAnswer(t *testing.T, p api.Program) {
	t.Helper()
	e, at := slumber.Check(p)
	ok := e == api.OK && at == 0
	ok = ok || (e == api.ErrSize || e == api.ErrHeight) && at >= 0 && (at == 0 || at < len(p.Funcs))
	ok = ok || e == api.ErrCode && at >= 0 && at/1000 < len(p.Funcs) && at%1000 < len(p.Funcs[at/1000].Code)
	if !ok {
		t.Errorf("P1: Check = %d, %d", e, at)
	}
}

// withRoom is a program with spare room behind its functions and instructions, and all of that room.
func withRoom(f api.Func) (api.Program, func() ([]api.Func, []api.Instr)) {
	l := make([]api.Instr, len(f.Code), len(f.Code)+3)
	copy(l, f.Code)
	f.Code = l
	fs := make([]api.Func, 1, 3)
	fs[0] = f
	return api.Program{Funcs: fs}, func() ([]api.Func, []api.Instr) { return fs[:cap(fs)], l[:cap(l)] }
}

// TestCheckWritesNothing: P2. Neither the program nor its spare room is written into.
func TestCheckWritesNothing(t *testing.T) {
	for _, f := range []api.Func{
		{Locals: 2, Code: upAndDown()},
		{Locals: -2, Code: halts()},
		{Code: []api.Instr{plain(api.Halt), in(api.Ops, 5)}},
		{Code: []api.Instr{in(api.Int, 5), in(api.Jump, 0)}},
	} {
		p, room := withRoom(f)
		fs, l := room()
		for i := len(f.Code); i < len(l); i++ {
			l[i] = in(-7, -9)
		}
		fs[1] = api.Func{Params: -3, Locals: -4}
		same, sameRoom := withRoom(f)
		wantFs, wantL := sameRoom()
		copy(wantL, l)
		wantFs[1] = fs[1]
		slumber.Check(p)
		if !reflect.DeepEqual(p, same) || !reflect.DeepEqual(fs, wantFs) || !reflect.DeepEqual(l, wantL) {
			t.Errorf("P2: Check has written into %v", f)
		}
	}
}

// TestCheckHangsOnTheProgramAlone: P2. Other programs checked ahead of it, or at the same time, change nothing; nor does what the program was before.
func TestCheckHangsOnTheProgramAlone(t *testing.T) {
	var wait sync.WaitGroup
	for range 8 {
		wait.Go(func() {
			for range 200 {
				wantCheck(t, "a height", afterHalts(2, api.Func{Code: one(plain(api.Pop))}), api.ErrHeight, 2)
				wantCheck(t, "a code", alone(plain(api.Halt), plain(-1)), api.ErrCode, 1)
				wantCheck(t, "a size", program(), api.ErrSize, 0)
				wantCheck(t, "none", alone(upAndDown()...), api.OK, 0)
			}
		})
	}
	wait.Wait()
	p := alone(plain(api.Halt), plain(api.Halt))
	wantCheck(t, "ahead of the change", p, api.OK, 0)
	p.Funcs[0].Code[0] = plain(api.Pop)
	wantCheck(t, "behind the change", p, api.ErrHeight, 0)
	p.Funcs[0].Code[0] = plain(api.Halt)
	wantCheck(t, "changed back", p, api.OK, 0)
}
