package slumber_test

import (
	"math"
	"math/rand/v2"
	"testing"

	"slumber/api"
	"slumber/slumber"
)

// author writes programs by chance that fit together, and mostly hand the operations what they take.
type author struct {
	*rand.Rand
	funcs  []api.Func
	locals []byte // what each local holds, as far as the author knows
	stack  []byte // of i, n, r, a, w and ?
	aheads []int  // the height ahead of each instruction that is written
	open   []jump
	code   []api.Instr
}

// jump is a JumpNot whose way leads to an instruction that is not written yet.
type jump struct{ pc, height int }

// programs by chance: the first function calls only those behind it, but now and then any.
func (a *author) program() api.Program {
	a.funcs = make([]api.Func, 1+a.IntN(4))
	for i := range a.funcs {
		f := &a.funcs[i]
		f.Locals = a.IntN(5)
		if i > 0 {
			f.Params = a.IntN(f.Locals + 1)
		}
	}
	for i := range a.funcs {
		a.funcs[i].Code = a.write(i)
	}
	return api.Program{Funcs: a.funcs}
}

func (a *author) write(i int) []api.Instr {
	f := a.funcs[i]
	a.locals = make([]byte, f.Locals)
	for n := range a.locals {
		a.locals[n] = 'n'
		if n < f.Params {
			a.locals[n] = '?'
		}
	}
	a.stack, a.aheads, a.open, a.code = nil, nil, nil, nil
	for size := 10 + a.IntN(30); len(a.code) < size; {
		a.one(i)
	}
	a.end(i)
	return a.code
}

// end closes all jumps that are open, by which the heights come out as they must.
func (a *author) end(i int) {
	for len(a.open) > 0 {
		j := a.open[len(a.open)-1]
		a.open = a.open[:len(a.open)-1]
		for len(a.stack) > j.height {
			a.add(in(api.Pop, 0), 1, "")
		}
		for len(a.stack) < j.height {
			a.add(in(api.Nil, 0), 0, "n")
		}
		a.code[j.pc].A = len(a.code)
	}
	switch last := a.IntN(4); {
	case last == 0 && i == 0:
		for len(a.stack) > 0 {
			a.add(in(api.Pop, 0), 1, "")
		}
		a.add(in(api.Jump, 0), 0, "")
	case last == 1:
		a.add(in(api.Halt, 0), 0, "")
	default:
		if len(a.stack) == 0 {
			a.add(in(api.Int, 1), 0, "i")
		}
		a.add(in(api.Return, 0), 1, "")
	}
}

func (a *author) add(i api.Instr, pops int, pushes string) {
	a.aheads = append(a.aheads, len(a.stack))
	a.code = append(a.code, i)
	a.stack = append(a.stack[:len(a.stack)-pops], pushes...)
}

// fits tells whether the top of the stack is what an operation takes; now and then the author lets anything pass.
func (a *author) fits(takes string) bool {
	if len(a.stack) < len(takes) {
		return false
	}
	wild := a.IntN(60) == 0
	for n, want := range []byte(takes) {
		have := a.stack[len(a.stack)-len(takes)+n]
		if want != '*' && have != want && !wild && !(have == '?' && a.IntN(4) == 0) {
			return false
		}
	}
	return true
}

// one adds an instruction, or none if what was thrown does not fit.
func (a *author) one(i int) {
	if n := len(a.open); n > 0 && a.open[n-1].height == len(a.stack) && a.IntN(3) == 0 {
		a.code[a.open[n-1].pc].A = len(a.code)
		a.open = a.open[:n-1]
		for l := range a.locals {
			a.locals[l] = '?'
		}
		for l := range a.stack {
			a.stack[l] = '?'
		}
	}
	shapes := []struct {
		op            int
		takes, pushes string
	}{
		{api.Add, "ii", "i"}, {api.Sub, "ii", "i"}, {api.Mul, "ii", "i"}, {api.Less, "ii", "i"}, {api.Same, "**", "i"}, {api.Pop, "*", ""},
		{api.IsRef, "*", "i"}, {api.Print, "i", ""}, {api.Print, "i", ""}, {api.Array, "i", "a"}, {api.Weak, "r", "w"}, {api.Weak, "a", "w"}, {api.Weak, "w", "w"},
		{api.At, "ai", "?"}, {api.Set, "ai*", ""}, {api.Set, "ai*", ""}, {api.Len, "r", "i"}, {api.Len, "a", "i"}, {api.Strong, "w", "?"}, {api.Strong, "w", "?"}, {api.Nil, "", "n"},
	}
	if s := shapes[a.IntN(len(shapes))]; a.IntN(2) == 0 {
		if len(a.stack)-len(s.takes)+len(s.pushes) <= api.MaxHeight && a.fits(s.takes) {
			a.add(in(s.op, 0), len(s.takes), s.pushes)
		}
		return
	}
	a.other(i)
}

// other is for the instructions with an A, and those that turn the stack about.
func (a *author) other(i int) {
	room := len(a.stack) < api.MaxHeight
	ints := []int{0, 0, 1, 1, 2, 2, 3, 3, 5, -1, 12, 13, math.MaxInt, math.MinInt}
	switch n := a.IntN(13); {
	case n < 2 && room:
		a.add(in(api.Int, ints[a.IntN(len(ints))]), 0, "i")
	case n == 2 && room && len(a.locals) > 0:
		l := a.IntN(len(a.locals))
		a.add(in(api.Load, l), 0, string(a.locals[l]))
	case n <= 4 && len(a.locals) > 0 && a.fits("*"):
		l := a.IntN(len(a.locals))
		a.locals[l] = a.stack[len(a.stack)-1]
		a.add(in(api.Store, l), 1, "")
	case n == 5 && room && a.fits("*"):
		top := a.stack[len(a.stack)-1]
		a.add(in(api.Dup, 0), 1, string([]byte{top, top}))
	case n == 6 && a.fits("**"):
		top := len(a.stack) - 1
		a.add(in(api.Swap, 0), 2, string([]byte{a.stack[top], a.stack[top-1]}))
	case n == 7 && room:
		a.add(in(api.Record, a.IntN(4)), 0, "r")
	case n == 8 && a.fits("r"):
		a.add(in(api.Get, a.IntN(3)), 1, "?")
	case n == 9 && a.fits("r*"):
		a.add(in(api.Put, a.IntN(3)), 2, "")
	case n == 10 && a.fits("*"):
		a.jumpNot()
	case n == 11:
		to := a.IntN(len(a.funcs))
		params := a.funcs[to].Params
		if (to > i || a.IntN(6) == 0) && params <= len(a.stack) && len(a.stack)-params < api.MaxHeight {
			a.add(in(api.Call, to), params, "?")
		}
	}
}

// jumpNot leads ahead mostly, and now and then back to where the height is the same.
func (a *author) jumpNot() {
	height := len(a.stack) - 1
	var back []int
	for pc, h := range a.aheads {
		if h == height {
			back = append(back, pc)
		}
	}
	if len(back) > 0 && a.IntN(3) == 0 {
		a.add(in(api.JumpNot, back[a.IntN(len(back))]), 1, "")
		return
	}
	a.open = append(a.open, jump{len(a.code), height})
	a.add(in(api.JumpNot, 0), 1, "")
}

// draws by chance: often none, and of every size.
func (a *author) draws() []int {
	l := make([]int, max(0, a.IntN(30)-10))
	for i := range l {
		l[i] = a.IntN(9) - 4
		if a.IntN(8) == 0 {
			l[i] = int(a.Uint64())
		}
	}
	return l
}

// TestAgainstTheModel holds machines of programs by chance, with draws by chance, against the model, step by step; and P7, a machine that makes all its steps in one Run against it at the end.
func TestAgainstTheModel(t *testing.T) {
	states := map[int]int{}
	swept := 0
	for seed := range uint64(2000) {
		a := &author{Rand: rand.New(rand.NewPCG(seed, 1))}
		p := a.program()
		if e, at := slumber.Check(p); e != api.OK {
			t.Fatalf("seed %d: the author wrote a program that Check refuses: %d, %d", seed, e, at)
		}
		capacity := 1 + a.IntN(8)
		like, m, whole := newModel(p, capacity), begun(t, p, capacity), begun(t, p, capacity)
		l := a.draws()
		like.draw(l)
		draw(t, m, l...)
		draw(t, whole, l...)
		steps := 0
		for ; steps < 300 && like.state == api.Running; steps++ {
			taken := m.Status().Objects
			like.step()
			wantRun(t, m, 1, 1)
			if a, b := toldMachine(m), like.told(); a != b {
				t.Fatalf("seed %d, step %d: the machine is %s, want %s", seed, steps, a, b)
			}
			if m.Status().Objects < taken {
				swept++
			}
		}
		wantRun(t, whole, steps, steps)
		if a, b := toldMachine(whole), like.told(); a != b {
			t.Fatalf("P7: seed %d: in one Run %s, want %s", seed, a, b)
		}
		states[like.state]++
	}
	t.Logf("ended as %v, room made %d times", states, swept)
	for state := api.Running; state <= api.OutFull; state++ {
		if states[state] == 0 {
			t.Errorf("no program by chance came to state %d: it has not been tested", state)
		}
	}
	if swept == 0 {
		t.Error("no room was ever made: it has not been tested")
	}
}

// TestDrawsAndCollectAgainstTheModel: between the steps draws are handed in, and it is tidied up.
func TestDrawsAndCollectAgainstTheModel(t *testing.T) {
	freed, refused := 0, 0
	for seed := range uint64(600) {
		a := &author{Rand: rand.New(rand.NewPCG(seed, 10))}
		p, capacity := a.program(), 1+a.IntN(8)
		like, m := newModel(p, capacity), begun(t, p, capacity)
		for call := range 200 {
			switch {
			case a.IntN(6) == 0:
				n := like.free(like.alive())
				freed += n
				wantCollect(t, m, n)
			case a.IntN(5) == 0:
				l := a.draws()
				if like.draw(l) {
					draw(t, m, l...)
				} else {
					refused++
					wantTooLong(t, m, l)
				}
			case like.state == api.Running:
				like.step()
				wantRun(t, m, 1, 1)
			}
			if a, b := toldMachine(m), like.told(); a != b {
				t.Fatalf("P8 to P10: seed %d, call %d: the machine is %s, want %s", seed, call, a, b)
			}
		}
	}
	t.Logf("%d objects freed by Collect, draws refused %d times", freed, refused)
	if freed == 0 || refused == 0 {
		t.Error("Collect never freed, or Draw never refused: it has not been tested")
	}
}
