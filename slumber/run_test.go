package slumber_test

import (
	"math"
	"strings"
	"testing"

	"slumber/api"
	"slumber/slumber"
)

// wildInts are ints at which sums and bounds are apt to go wrong.
func wildInts() []int {
	return []int{math.MinInt, math.MinInt + 1, math.MinInt32, -10001, -1, 10001, math.MaxInt32, math.MaxUint32, math.MaxInt - 1, math.MaxInt}
}

func wantNoMachine(t *testing.T, p api.Program, capacity int, want api.Errno) {
	t.Helper()
	if m, e := slumber.New(p, capacity); m != nil || e != want {
		t.Errorf("P4: New(%v, %d) = %v, %d, want nil, %d", p, capacity, m, e, want)
	}
}

func TestNewTellsTheErrorOfCheckFirst(t *testing.T) {
	for _, capacity := range []int{-1, 0, 1, api.MaxCapacity, api.MaxCapacity + 1} {
		wantNoMachine(t, program(), capacity, api.ErrSize)
		wantNoMachine(t, api.Program{}, capacity, api.ErrSize)
		wantNoMachine(t, program(function(1, 1, "Halt")), capacity, api.ErrSize)
		wantNoMachine(t, mainOf(0, "Halt, Load 0"), capacity, api.ErrCode)
		wantNoMachine(t, mainOf(0, "Int 1, Jump 0"), capacity, api.ErrHeight)
	}
}

func TestNewLooksAtTheCapacity(t *testing.T) {
	p := mainOf(0, "Halt")
	for _, capacity := range append(wildInts(), 0, api.MaxCapacity+1) {
		wantNoMachine(t, p, capacity, api.ErrRoom)
	}
	for capacity := 1; capacity <= api.MaxCapacity; capacity++ {
		wantHeap(t, begun(t, p, capacity), strings.TrimSpace(strings.Repeat(" -", capacity)))
	}
}

func TestNewBegins(t *testing.T) {
	for locals := range api.MaxLocals + 1 {
		m := begun(t, program(function(0, locals, "Int 3, Return"), function(2, 3, "Halt")), 2)
		wantState(t, m, api.Running)
		wantOutput(t, m)
		wantHeap(t, m, "- -")
		wantFrames(t, m, "0@0["+strings.TrimSpace(strings.Repeat(" nil", locals))+"|]")
	}
}

func TestRunLooksAtItsFuel(t *testing.T) {
	for name, m := range map[string]*slumber.Machine{
		"at its beginning": begun(t, mainOf(1, "Int 4, Print, Halt"), 2),
		"under way":        behind(t, mainOf(1, "Record 1, Int 4, Print, Halt"), 2, 3),
		"halted":           behind(t, mainOf(1, "Int 4, Print, Halt"), 2, 3),
		"trapped":          behind(t, mainOf(1, "Nil, Print, Halt"), 2, 2),
	} {
		before := toldMachine(m)
		for _, fuel := range append(wildInts(), api.MaxFuel+1) {
			if n, e := m.Run(fuel); n != 0 || e != api.ErrFuel {
				t.Errorf("P5: %s: Run(%d) = %d, %d, want 0, ErrFuel", name, fuel, n, e)
			}
		}
		wantRun(t, m, 0, 0)
		if s := toldMachine(m); s != before {
			t.Errorf("P1: %s: the machine was %s, is %s", name, before, s)
		}
	}
}

func TestRunMakesStepsTillTheFuelEnds(t *testing.T) {
	m := begun(t, mainOf(0, "Jump 1, Jump 2, Jump 0"), 1)
	wantRun(t, m, api.MaxFuel, api.MaxFuel)
	wantFrames(t, m, "0@1[|]")
	wantRun(t, m, 1, 1)
	wantFrames(t, m, "0@2[|]")
	wantRun(t, m, 9999, 9999)
	wantFrames(t, m, "0@2[|]")
	wantState(t, m, api.Running)
}

func TestRunEndsWithTheMachine(t *testing.T) {
	for _, c := range []struct {
		text         string
		steps, state int
	}{
		{"Halt", 1, api.Halted},
		{"Int 7, Print, Halt", 3, api.Halted},
		{"Int 7, Return", 2, api.Halted},
		{"Int 7, Record 0, Add, Print, Halt", 3, api.BadKind},
		{"Record 0, Get 0, Print, Halt", 2, api.BadIndex},
		{"Int 13, Array, Halt", 2, api.BadSize},
		{"Call 0, Return", api.MaxFrames, api.TooDeep},
		{"Record 0, Record 0, Record 0, Halt", 3, api.HeapFull},
		{"Int 0, Print, Jump 0", 3*api.MaxOutput + 2, api.OutFull},
	} {
		m := begun(t, mainOf(0, c.text), 2)
		wantRun(t, m, c.steps-1, c.steps-1)
		wantState(t, m, api.Running)
		wantRun(t, m, 1, 1)
		wantState(t, m, c.state)
		before := toldMachine(m)
		wantRun(t, m, api.MaxFuel, 0)
		if s := toldMachine(m); s != before {
			t.Errorf("P5: %s: behind its end the machine was %s, is %s", c.text, before, s)
		}
		m = begun(t, mainOf(0, c.text), 2)
		wantRun(t, m, api.MaxFuel, c.steps)
		wantState(t, m, c.state)
	}
}

// TestOperations: what each operation does where it meets no trap. The frames and the heap are those behind the last instruction that is written.
func TestOperations(t *testing.T) {
	for _, c := range []struct{ text, frames, heap string }{
		{"Int 0", "0@1[nil nil|0]", "- - -"},
		{"Int -9223372036854775808", "0@1[nil nil|-9223372036854775808]", "- - -"},
		{"Int 9223372036854775807", "0@1[nil nil|9223372036854775807]", "- - -"},
		{"Nil", "0@1[nil nil|nil]", "- - -"},
		{"Int 5, Store 1, Load 1, Load 0", "0@4[nil 5|5 nil]", "- - -"},
		{"Int 5, Store 0, Record 0, Store 1, Nil, Store 0", "0@6[nil #0|]", "r[] - -"},
		{"Int 5, Int 6, Dup", "0@3[nil nil|5 6 6]", "- - -"},
		{"Record 1, Dup, Int 6, Put 0", "0@4[nil nil|#0]", "r[6] - -"},
		{"Int 5, Int 6, Pop", "0@3[nil nil|5]", "- - -"},
		{"Int 4, Int 5, Nil, Swap", "0@4[nil nil|4 nil 5]", "- - -"},
		{"Int 1, Int 5, Int 3, Add", "0@4[nil nil|1 8]", "- - -"},
		{"Int 1, Int 5, Int 3, Sub", "0@4[nil nil|1 2]", "- - -"},
		{"Int 1, Int 5, Int 3, Mul", "0@4[nil nil|1 15]", "- - -"},
		{"Int 1, Int 5, Int 3, Less", "0@4[nil nil|1 0]", "- - -"},
		{"Int 9223372036854775807, Int 1, Add", "0@3[nil nil|-9223372036854775808]", "- - -"},
		{"Int -9223372036854775808, Int 1, Sub", "0@3[nil nil|9223372036854775807]", "- - -"},
		{"Int -9223372036854775808, Int -1, Mul", "0@3[nil nil|-9223372036854775808]", "- - -"},
		{"Int 4294967297, Int 4294967297, Mul", "0@3[nil nil|8589934593]", "- - -"},
		{"Int -9223372036854775808, Int 9223372036854775807, Less", "0@3[nil nil|1]", "- - -"},
		{"Int 3, Int 3, Less", "0@3[nil nil|0]", "- - -"},
		{"Int -1, Int 0, Less", "0@3[nil nil|1]", "- - -"},
		{"Nil, Nil, Same", "0@3[nil nil|1]", "- - -"},
		{"Int 3, Int 3, Same", "0@3[nil nil|1]", "- - -"},
		{"Int 3, Int -3, Same", "0@3[nil nil|0]", "- - -"},
		{"Nil, Int 0, Same", "0@3[nil nil|0]", "- - -"},
		{"Int 0, Record 0, Same", "0@3[nil nil|0]", "r[] - -"},
		{"Nil, Record 0, Same", "0@3[nil nil|0]", "r[] - -"},
		{"Record 0, Dup, Same", "0@3[nil nil|1]", "r[] - -"},
		{"Record 0, Record 0, Same", "0@3[nil nil|0]", "r[] r[] -"},
		{"Record 0, Dup, Weak, Same", "0@4[nil nil|0]", "r[] w[#0] -"},
		{"Record 0", "0@1[nil nil|#0]", "r[] - -"},
		{"Record 8", "0@1[nil nil|#0]", "r[nil nil nil nil nil nil nil nil] - -"},
		{"Int 0, Array", "0@2[nil nil|#0]", "a[] - -"},
		{"Int 12, Array", "0@2[nil nil|#0]", "a[nil nil nil nil nil nil nil nil nil nil nil nil] - -"},
		{"Record 0, Weak", "0@2[nil nil|#1]", "r[] w[#0] -"},
		{"Int 1, Array, Weak, Weak", "0@4[nil nil|#2]", "a[nil] w[#0] w[#1]"},
		{"Record 2, Dup, Int 6, Put 1, Get 1", "0@5[nil nil|6]", "r[nil 6] - -"},
		{"Record 2, Get 0", "0@2[nil nil|nil]", "r[nil nil] - -"},
		{"Record 8, Dup, Dup, Put 7, Get 7", "0@5[nil nil|#0]", "r[nil nil nil nil nil nil nil #0] - -"},
		{"Int 3, Array, Dup, Int 0, Int 6, Set, Int 0, At", "0@8[nil nil|6]", "a[6 nil nil] - -"},
		{"Int 3, Array, Dup, Int 2, Int 6, Set, Int 2, At", "0@8[nil nil|6]", "a[nil nil 6] - -"},
		{"Int 2, Array, Dup, Int 1, Nil, Set, Int 1, At", "0@8[nil nil|nil]", "a[nil nil] - -"},
		{"Int 2, Array, Dup, Int 1, Record 0, Set, Int 1, At", "0@8[nil nil|#1]", "a[nil #1] r[] -"},
		{"Record 0, Len", "0@2[nil nil|0]", "r[] - -"},
		{"Record 3, Len", "0@2[nil nil|3]", "r[nil nil nil] - -"},
		{"Int 12, Array, Len", "0@3[nil nil|12]", "a[nil nil nil nil nil nil nil nil nil nil nil nil] - -"},
		{"Record 0, Dup, Weak, Strong", "0@4[nil nil|#0 #0]", "r[] w[#0] -"},
		{"Record 0, Weak, Strong", "0@3[nil nil|nil]", "r[] w[#0] -"},
		{"Nil, IsRef", "0@2[nil nil|0]", "- - -"},
		{"Int 1, IsRef", "0@2[nil nil|0]", "- - -"},
		{"Record 0, IsRef", "0@2[nil nil|1]", "r[] - -"},
		{"Int 0, Array, IsRef", "0@3[nil nil|1]", "a[] - -"},
		{"Record 0, Weak, IsRef", "0@3[nil nil|1]", "r[] w[#0] -"},
		{"Int 4, Int 5, Print", "0@3[nil nil|4]", "- - -"},
	} {
		l := words(c.text + ", Halt")
		m := behind(t, program(api.Func{Locals: 2, Code: l}), 3, len(l)-1)
		wantState(t, m, api.Running)
		wantFrames(t, m, c.frames)
		wantHeap(t, m, c.heap)
		if t.Failed() {
			t.Fatalf("the program is %s", c.text)
		}
	}
}

func TestJumps(t *testing.T) {
	m := begun(t, mainOf(0, "Jump 2, Halt, Int 4, Jump 1"), 1)
	for _, want := range []string{"0@2[|]", "0@3[|4]", "0@1[|4]", ""} {
		wantRun(t, m, 1, 1)
		wantFrames(t, m, want)
	}
	for first, pc := range map[string]string{"Nil": "4", "Int 0": "4", "Int 1": "3", "Int -1": "3", "Int -9223372036854775808": "3", "Record 0": "3"} {
		m := behind(t, mainOf(0, "Int 8, "+first+", JumpNot 4, Halt, Halt"), 1, 3)
		wantFrames(t, m, "0@"+pc+"[|8]")
	}
	// A record in slot 1 is a reference just as the one in slot 0, which looks like the int 0.
	m = behind(t, mainOf(0, "Record 0, Record 0, JumpNot 4, Halt, Halt"), 2, 3)
	wantFrames(t, m, "0@3[|#0]")
}

func TestCallsAndReturns(t *testing.T) {
	p := program(
		function(0, 1, "Int 1, Int 2, Int 3, Int 4, Call 2, Call 1, Halt"),
		function(0, 0, "Record 0, Int 8, Swap, Return"),
		function(3, 5, "Load 2, Store 3, Load 0, Load 3, Return"),
	)
	m := begun(t, p, 1)
	for _, c := range []struct {
		steps  int
		frames string
	}{
		{4, "0@4[nil|1 2 3 4]"},
		{1, "0@4[nil|1] 2@0[2 3 4 nil nil|]"},
		{4, "0@4[nil|1] 2@4[2 3 4 4 nil|2 4]"},
		{1, "0@5[nil|1 4]"},
		{1, "0@5[nil|1 4] 1@0[|]"},
		{3, "0@5[nil|1 4] 1@3[|8 #0]"},
		{1, "0@6[nil|1 4 #0]"},
		{1, ""},
	} {
		wantRun(t, m, c.steps, c.steps)
		wantFrames(t, m, c.frames)
	}
	wantState(t, m, api.Halted)
	wantHeap(t, m, "r[]")
}

func TestLocalsAreNilAtEachCall(t *testing.T) {
	p := program(function(0, 0, "Int 5, Call 1, Pop, Int 6, Call 1, Halt"), function(1, 2, "Load 1, IsRef, Print, Record 0, Store 1, Load 1, Return"))
	wantEnd(t, begun(t, p, 2), 6+2*7, api.Halted, 0, 0)
	m := behind(t, p, 2, 12)
	wantFrames(t, m, "0@4[|] 1@0[6 nil|]")
}

func TestHaltInACalledFunctionDropsAllFrames(t *testing.T) {
	m := begun(t, program(function(0, 1, "Int 3, Call 1, Halt"), function(0, 2, "Int 4, Call 2, Halt"), function(0, 0, "Record 0, Halt")), 1)
	wantRun(t, m, 5, 5)
	wantFrames(t, m, "0@1[nil|3] 1@1[nil nil|4] 2@1[|#0]")
	wantEnd(t, m, 1, api.Halted)
	wantFrames(t, m, "")
	wantHeap(t, m, "r[]")
}

func TestRecursionToTheGreatestDepth(t *testing.T) {
	// down(n): if n is 0: n, else down(n - 1) + n; main has the first frame.
	down := function(1, 1, "Load 0, JumpNot 8, Load 0, Int 1, Sub, Call 1, Load 0, Jump 10, Load 0, Return, Add, Return")
	for n, want := range []int{0, 1, 3, 6, 10, 15, 21, 28, 36, 45, 55} {
		m := begun(t, program(api.Func{Code: code(one(in(api.Int, n)), words("Call 1, Print, Halt"))}, down), 1)
		wantRun(t, m, 2+6*n, 2+6*n)
		if l := m.Frames(); len(l) != n+2 {
			t.Errorf("P5: there are %d frames, want %d", len(l), n+2)
		}
		wantEnd(t, m, 4+4*n+2, api.Halted, want)
	}
	m := begun(t, program(function(0, 0, "Int 11, Call 1, Print, Halt"), down), 1)
	wantEnd(t, m, 2+6*11, api.TooDeep)
	l := m.Frames()
	if len(l) != api.MaxFrames || toldFrames(l[11:]) != "1@5[1|0]" {
		t.Errorf("P5: the frames are %s", toldFrames(l))
	}
}

// TestTraps: the last instruction that is written traps; all but the state is as it was ahead of it.
func TestTraps(t *testing.T) {
	for _, c := range []struct {
		state int
		texts []string
	}{
		{api.BadKind, []string{
			"Int 1, Record 0, Add", "Record 0, Int 1, Add", "Nil, Int 1, Add", "Int 1, Nil, Add",
			"Int 1, Nil, Sub", "Nil, Int 1, Sub", "Int 1, Nil, Mul", "Nil, Int 1, Mul", "Int 1, Nil, Less", "Record 0, Record 0, Less",
			"Nil, Array", "Record 0, Array", "Int 1, Weak", "Nil, Weak",
			"Nil, Get 0", "Int 0, Get 0", "Int 1, Array, Get 0", "Record 0, Weak, Get 0",
			"Nil, Nil, Put 0", "Int 0, Nil, Put 0", "Int 1, Array, Nil, Put 0", "Record 0, Weak, Nil, Put 0", "Nil, Record 1, Put 0",
			"Nil, Int 0, At", "Int 0, Int 0, At", "Record 1, Int 0, At", "Record 0, Weak, Int 0, At", "Int 1, Array, Nil, At", "Int 1, Array, Record 0, At",
			"Nil, Int 0, Nil, Set", "Record 1, Int 0, Nil, Set", "Record 0, Weak, Int 0, Nil, Set", "Int 1, Array, Nil, Int 0, Set", "Int 1, Array, Record 0, Int 0, Set", "Nil, Int 0, Record 0, Set",
			"Nil, Len", "Int 0, Len", "Record 0, Weak, Len",
			"Nil, Strong", "Int 0, Strong", "Record 0, Strong", "Int 0, Array, Strong",
			"Nil, Print", "Record 0, Print",
		}},
		{api.BadIndex, []string{
			"Record 0, Get 0", "Record 1, Get 1", "Record 7, Get 7", "Record 1, Nil, Put 1", "Record 0, Nil, Put 7",
			"Int 0, Array, Int 0, At", "Int 2, Array, Int 2, At", "Int 2, Array, Int -1, At", "Int 12, Array, Int 12, At",
			"Int 2, Array, Int 9223372036854775807, At", "Int 2, Array, Int -9223372036854775808, At",
			"Int 2, Array, Int 2, Nil, Set", "Int 2, Array, Int -1, Nil, Set", "Int 0, Array, Int 0, Nil, Set", "Int 2, Array, Int -9223372036854775808, Nil, Set",
		}},
		{api.BadSize, []string{"Int 13, Array", "Int -1, Array", "Int -9223372036854775808, Array", "Int 9223372036854775807, Array", "Int 4294967296, Array"}},
		{api.HeapFull, []string{
			"Record 0, Record 0, Record 0", "Record 0, Record 0, Int 0, Array", "Record 0, Record 0, Weak", "Record 0, Dup, Weak, Weak",
			"Record 1, Dup, Record 0, Put 0, Int 1, Array", "Int 1, Array, Dup, Int 0, Record 0, Set, Dup, Weak",
		}},
	} {
		for _, text := range c.texts {
			wantTrap(t, program(api.Func{Code: words(text + ", Halt")}), 2, strings.Count(text, ",")+1, c.state)
		}
	}
}

// wantTrap: the last of so many steps traps.
func wantTrap(t *testing.T, p api.Program, capacity, steps, state int) {
	t.Helper()
	wantTrapNext(t, behind(t, p, capacity, steps-1), state)
	if t.Failed() {
		t.Fatalf("step %d of %v", steps, p)
	}
}

// wantTrapNext: the next step traps, and all but the state is as it was.
func wantTrapNext(t *testing.T, m *slumber.Machine, state int) {
	t.Helper()
	before, all := m.Status(), toldMachine(m)
	wantRun(t, m, api.MaxFuel, 1)
	s := m.Status()
	if before.State != api.Running || s.State != state {
		t.Errorf("P5: the state was %d, is %d, want 0, %d", before.State, s.State, state)
	}
	s.State = api.Running
	if rest := strings.Replace(toldMachine(m), "{"+string(rune('0'+state)), "{0", 1); rest != all || s != before {
		t.Errorf("P5: a trap has changed %s into %s", all, rest)
	}
}

// TestTheTrapNamedFirstCounts: the heap is full, and has something to be freed only where no trap forbids it.
func TestTheTrapNamedFirstCounts(t *testing.T) {
	for _, c := range []struct {
		text  string
		state int
	}{
		{"Record 0, Record 0, Nil, Array", api.BadKind},
		{"Record 0, Record 0, Int 13, Array", api.BadSize},
		{"Record 0, Pop, Record 0, Pop, Int 13, Array", api.BadSize},
		{"Record 0, Pop, Record 0, Pop, Nil, Array", api.BadKind},
		{"Record 0, Record 0, Nil, Weak", api.BadKind},
		{"Record 0, Pop, Record 0, Pop, Int 1, Weak", api.BadKind},
		{"Int 0, Array, Nil, At", api.BadKind},
		{"Int 0, Array, Nil, Nil, Set", api.BadKind},
		{"Int 0, Array, Get 7", api.BadKind},
	} {
		wantTrap(t, program(api.Func{Code: words(c.text + ", Halt")}), 2, strings.Count(c.text, ",")+1, c.state)
	}
	ten := function(0, 0, strings.Repeat("Int 9, Print, ", 10)+"Nil, Return")
	forty := strings.Repeat("Call 1, Pop, ", 4)
	wantTrap(t, program(function(0, 0, forty+"Nil, Print, Halt"), ten), 1, 4*24+2, api.BadKind)
	wantTrap(t, program(function(0, 0, forty+"Record 0, Print, Halt"), ten), 1, 4*24+2, api.BadKind)
	wantTrap(t, program(function(0, 0, forty+"Int 9, Print, Halt"), ten), 1, 4*24+2, api.OutFull)
}

// TestTooDeepLeavesTheValues: what would have been handed over is on the stack still.
func TestTooDeepLeavesTheValues(t *testing.T) {
	p := program(function(0, 0, "Int 3, Record 0, Call 1, Halt"), function(2, 2, "Load 0, Load 1, Call 1, Return"))
	wantTrap(t, p, 1, 3*api.MaxFrames, api.TooDeep)
}
