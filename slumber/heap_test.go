package slumber_test

import (
	"math/rand/v2"
	"strings"
	"sync"
	"testing"

	"slumber/api"
)

// TestNewObjectsTakeTheLeastFreeSlot: the heap behind all of the instructions but the Halt.
func TestNewObjectsTakeTheLeastFreeSlot(t *testing.T) {
	for _, c := range []struct {
		name, text string
		capacity   int
		heap       string
	}{
		{"one behind the other", "Record 1, Int 2, Array, Record 0, Weak", 5, "r[nil] a[nil nil] r[] w[#2] -"},
		{"what is not alive stays while there is room", "Record 0, Pop, Record 1, Pop, Record 2, Pop", 3, "r[] r[nil] r[nil nil]"},
		{"and goes when there is none", "Record 0, Pop, Record 1, Pop, Record 2, Pop, Record 3", 3, "r[nil nil nil] - -"},
		{"all of it at once, not as much as is needed", "Record 0, Pop, Record 1, Record 2, Pop, Record 3", 3, "r[nil nil nil] r[nil] -"},
		{"the next one fills the gap", "Record 0, Pop, Record 1, Record 2, Pop, Record 3, Record 4", 3, "r[nil nil nil] r[nil] r[nil nil nil nil]"},
		{"a heap of one slot", "Record 0, Pop, Record 1, Pop, Int 1, Array", 1, "a[nil]"},
		{"alive by a local", "Record 0, Store 0, Record 1, Pop, Record 2", 2, "r[] r[nil nil]"},
		{"not alive: a local that has another value", "Record 0, Store 0, Record 1, Store 0, Record 2", 2, "r[nil nil] r[nil]"},
		{"alive deep in the stack", "Record 0, Int 1, Int 2, Record 1, Pop, Record 2", 2, "r[] r[nil nil]"},
		{"alive by a field", "Record 1, Store 0, Load 0, Record 2, Put 0, Record 3, Pop, Record 4", 3, "r[#1] r[nil nil] r[nil nil nil nil]"},
		{"alive by a place", "Int 2, Array, Store 0, Load 0, Int 1, Record 2, Set, Record 3, Pop, Record 4", 3, "a[nil #1] r[nil nil] r[nil nil nil nil]"},
		{"alive by a field of a place", "Record 1, Dup, Int 1, Array, Dup, Int 0, Record 0, Set, Put 0, Record 3, Pop, Record 4", 4, "r[#1] a[#2] r[] r[nil nil nil nil]"},
		{"not alive: a field of what is not", "Record 1, Record 2, Put 0, Record 3", 2, "r[nil nil nil] -"},
		{"not alive: a ring", "Record 1, Store 0, Record 1, Store 1, Load 0, Load 1, Put 0, Load 1, Load 0, Put 0, Nil, Store 0, Nil, Store 1, Record 0", 2, "r[] -"},
		{"alive: a ring", "Record 1, Store 0, Record 1, Store 1, Load 0, Load 1, Put 0, Load 1, Load 0, Put 0, Nil, Store 0, Record 0, Pop, Record 2", 3, "r[#1] r[#0] r[nil nil]"},
		{"alive: itself", "Record 1, Dup, Dup, Put 0, Record 0, Pop, Record 2", 2, "r[#0] r[nil nil]"},
		{"not alive: itself", "Record 1, Dup, Put 0, Record 2", 1, "r[nil nil]"},
		{"not alive: by a weak object", "Record 0, Weak, Record 1", 2, "r[nil] w[nil]"},
		{"alive: by a weak object and a local", "Record 0, Dup, Store 0, Weak, Record 1, Pop, Record 2", 3, "r[] w[#0] r[nil nil]"},
		{"a weak object of a weak object that is not alive", "Record 0, Dup, Store 0, Weak, Weak, Record 1", 3, "r[] r[nil] w[nil]"},
		{"a weak object of a weak object that is alive", "Record 0, Weak, Dup, Store 0, Weak, Record 1", 3, "r[nil] w[nil] w[#1]"},
		{"a weak object that refers to what holds it", "Record 1, Dup, Dup, Weak, Put 0, Record 0, Pop, Record 2", 3, "r[#1] w[#0] r[nil nil]"},
		{"not alive, with the weak object", "Record 1, Dup, Dup, Weak, Put 0, Pop, Record 2", 2, "r[nil nil] -"},
		{"what a weak object refers to holds another", "Record 1, Dup, Record 2, Put 0, Weak, Record 3", 3, "r[nil nil nil] - w[nil]"},
	} {
		l := words(c.text + ", Halt")
		m := behind(t, program(api.Func{Locals: 2, Code: l}), c.capacity, len(l)-1)
		wantHeap(t, m, c.heap)
		if t.Failed() {
			t.Fatalf("%s: %s", c.name, c.text)
		}
	}
}

// TestValuesOfLowerFramesKeepAlive: locals and stacks of the frames that wait.
func TestValuesOfLowerFramesKeepAlive(t *testing.T) {
	p := program(function(0, 1, "Record 0, Store 0, Record 1, Record 2, Call 1, Halt"), function(1, 1, "Record 3, Pop, Record 4, Nil, Store 0, Record 5, Halt"))
	m := behind(t, p, 4, 8)
	wantHeap(t, m, "r[] r[nil] r[nil nil] r[nil nil nil nil]")
	wantRun(t, m, 3, 3)
	wantHeap(t, m, "r[] r[nil] r[nil nil nil nil nil] r[nil nil nil nil]")
	wantFrames(t, m, "0@4[#0|#1] 1@6[nil|#3 #2]")
}

// TestDroppedFramesKeepNothingAlive: what a frame held is free when it has returned, but for the value.
func TestDroppedFramesKeepNothingAlive(t *testing.T) {
	p := program(function(0, 0, "Call 1, Record 3, Halt"), function(0, 1, "Record 0, Store 0, Record 1, Record 2, Return"))
	m := behind(t, p, 3, 7)
	wantHeap(t, m, "r[nil nil nil] - r[nil nil]")
	wantFrames(t, m, "0@2[|#2 #0]")
}

// TestValuesOfTheStepAreAlive: what a step pops counts for what is alive ahead of it.
func TestValuesOfTheStepAreAlive(t *testing.T) {
	wantTrap(t, mainOf(0, "Record 0, Weak, Halt"), 1, 2, api.HeapFull)
	m := behind(t, mainOf(0, "Record 0, Pop, Record 1, Weak, Halt"), 2, 4)
	wantHeap(t, m, "w[#1] r[nil]")
	m = behind(t, mainOf(0, "Record 0, Pop, Int 3, Array, Halt"), 1, 4)
	wantHeap(t, m, "a[nil nil nil]")
}

// TestStrongTellsNobodyWhenRoomWasMade: the same answer, whether what is not alive lies in its slot still, has gone, or another object lies there.
func TestStrongTellsNobodyWhenRoomWasMade(t *testing.T) {
	for capacity := 2; capacity <= 6; capacity++ {
		gone := "Record 0, Weak, Store 0, Record 1, Store 1, Load 0, Strong, IsRef, Print, Halt"
		wantEnd(t, begun(t, mainOf(2, gone), capacity), 10, api.Halted, 0)
		held := "Record 0, Dup, Store 1, Weak, Store 0, Load 0, Strong, IsRef, Print, Nil, Store 1, Load 0, Strong, IsRef, Print, Record 0, Store 1, Load 0, Strong, IsRef, Print, Halt"
		wantEnd(t, begun(t, mainOf(2, held), capacity), 22, api.Halted, 1, 0, 0)
		// What Strong has told is alive by that.
		kept := "Record 1, Dup, Dup, Int 7, Put 0, Weak, Store 0, Store 1, Load 0, Strong, Nil, Store 1, Record 0, Pop, Get 0, Print, Halt"
		if capacity > 2 {
			wantEnd(t, begun(t, mainOf(2, kept), capacity), 17, api.Halted, 7)
		}
	}
}

// TestStrongOfWhatOnlyADeadObjectRefersTo: a field of an object that is not alive does not count.
func TestStrongOfWhatOnlyADeadObjectRefersTo(t *testing.T) {
	p := mainOf(2, "Record 1, Record 0, Store 1, Load 1, Put 0, Load 1, Weak, Store 0, Nil, Store 1, Load 0, Strong, IsRef, Print, Halt")
	wantEnd(t, begun(t, p, 5), 15, api.Halted, 0)
	p = mainOf(2, "Record 1, Dup, Record 0, Store 1, Load 1, Put 0, Load 1, Weak, Store 0, Nil, Store 1, Load 0, Strong, IsRef, Print, Halt")
	wantEnd(t, begun(t, p, 5), 16, api.Halted, 1)
}

func TestAsManyObjectsAsThereAreSlots(t *testing.T) {
	// A list of all slots, each record holding the one made ahead of it.
	p := mainOf(1, "Record 1, Dup, Load 0, Put 0, Store 0, Jump 0")
	for capacity := 1; capacity <= api.MaxCapacity; capacity++ {
		m := begun(t, p, capacity)
		wantEnd(t, m, 6*capacity+1, api.HeapFull)
		if s := m.Status(); s.Objects != capacity {
			t.Errorf("P8: %d objects in %d slots", s.Objects, capacity)
		}
	}
	// Without the list there is always room.
	m := begun(t, mainOf(1, "Record 1, Store 0, Jump 0"), 2)
	wantRun(t, m, api.MaxFuel, api.MaxFuel)
	wantState(t, m, api.Running)
}

// scribble writes into a list and its spare room.
func scribble[T any](l []T, v T) {
	l = l[:cap(l)]
	for i := range l {
		l[i] = v
	}
}

// scribbleAll writes into all that a machine has told.
func scribbleAll(output []int, frames []api.Frame, slots []api.Object) {
	wild := api.Value{Kind: 9, N: -7}
	for _, f := range frames {
		scribble(f.Locals, wild)
		scribble(f.Stack, wild)
	}
	for _, o := range slots {
		scribble(o.Fields, wild)
	}
	scribble(output, -9)
	scribble(frames, api.Frame{Func: -1, Pc: -2})
	scribble(slots, api.Object{Kind: 9})
}

// TestWhatComesOutIsTheCallers: P2. Lists that came out may be written into; the machine goes on as one of which nobody asked anything.
func TestWhatComesOutIsTheCallers(t *testing.T) {
	p := program(
		function(0, 2, "Record 3, Dup, Store 0, Int 4, Put 1, Load 0, Weak, Store 1, Int 5, Load 0, Call 1, Print, Print, Jump 0"),
		function(1, 3, "Int 2, Array, Dup, Int 1, Load 0, Set, Store 2, Load 0, Get 1, Print, Load 2, Len, Return"),
	)
	left, asked := begun(t, p, 4), begun(t, p, 4)
	for range 300 {
		wantRun(t, left, 1, 1)
		wantRun(t, asked, 1, 1)
		scribbleAll(asked.Output(), asked.Frames(), asked.Heap())
		if a, b := toldMachine(left), toldMachine(asked); a != b {
			t.Fatalf("P2: the machine is %s, with its lists written into %s", a, b)
		}
	}
}

// TestWhatCameOutStays: P2. No later call changes a list that came out, nor does what is written into another one.
func TestWhatCameOutStays(t *testing.T) {
	p := mainOf(2, "Record 2, Dup, Store 0, Int 4, Put 1, Int 5, Print, Load 0, Int 6, Put 0, Int 7, Int 8, Store 1, Print, Halt")
	m := behind(t, p, 2, 8)
	output, frames, slots := m.Output(), m.Frames(), m.Heap()
	was := toldFrames(frames) + toldHeap(slots)
	scribbleAll(m.Output(), m.Frames(), m.Heap())
	wantRun(t, m, 5, 5)
	wantRun(t, m, 100, 2)
	scribbleAll(m.Output(), m.Frames(), m.Heap())
	if s := toldFrames(frames) + toldHeap(slots); s != was || len(output) != 1 || output[0] != 5 {
		t.Errorf("P2: what came out was %s, is %s, %v", was, s, output)
	}
}

// TestTheProgramIsNotKept: P2. The caller may write into the program that was handed in.
func TestTheProgramIsNotKept(t *testing.T) {
	p := program(function(0, 0, "Int 4, Call 1, Print, Halt"), function(1, 1, "Load 0, Dup, Mul, Return"))
	m := begun(t, p, 1)
	scribble(p.Funcs[0].Code, in(api.Ops, -1))
	scribble(p.Funcs[1].Code, in(-1, -1))
	scribble(p.Funcs, api.Func{})
	wantEnd(t, m, 8, api.Halted, 16)
}

// TestNewAndRunWriteNothing: P2. Neither the program nor its spare room is written into.
func TestNewAndRunWriteNothing(t *testing.T) {
	p, room := withRoom(function(0, 1, "Int 3, Record 2, Store 0, Load 0, Swap, Put 1, Halt"))
	funcs, l := room()
	spare := len(p.Funcs[0].Code)
	for i := spare; i < len(l); i++ {
		l[i] = in(-7, -9)
	}
	funcs[1] = api.Func{Params: -3}
	was := append([]api.Instr(nil), l...)
	wantEnd(t, begun(t, p, 1), 7, api.Halted)
	for i := range l {
		if l[i] != was[i] {
			t.Errorf("P2: instruction %d of the program was %v, is %v", i, was[i], l[i])
		}
	}
	if funcs[1].Params != -3 || len(p.Funcs) != 1 || len(p.Funcs[0].Code) != spare {
		t.Error("P2: the program's functions have been written into")
	}
}

// TestMachinesDoNotChangeOneAnother: P2. Many at once, each of the same program, end all alike.
func TestMachinesDoNotChangeOneAnother(t *testing.T) {
	p := program(function(0, 1, "Int 10, Store 0, Load 0, Call 1, Print, Load 0, Int 1, Sub, Store 0, Load 0, JumpNot 12, Jump 2, Halt"), function(1, 2, "Record 1, Dup, Store 1, Load 0, Put 0, Load 1, Get 0, Load 0, Mul, Return"))
	var wait sync.WaitGroup
	for i := range 16 {
		wait.Go(func() {
			for range 30 {
				wantEnd(t, begun(t, p, 1+i), 2+10*20, api.Halted, 100, 81, 64, 49, 36, 25, 16, 9, 4, 1)
			}
		})
	}
	wait.Wait()
	a, b := begun(t, p, 3), begun(t, p, 3)
	was := toldMachine(b)
	wantRun(t, a, 100, 100)
	if s := toldMachine(b); s != was {
		t.Errorf("P2: another machine's steps have changed %s into %s", was, s)
	}
}

// TestOneRunOrMany: P7.
func TestOneRunOrMany(t *testing.T) {
	chance := rand.New(rand.NewPCG(7, 7))
	p := program(function(0, 2, "Record 2, Store 0, Load 0, Load 1, Put 0, Load 0, Weak, Store 1, Load 0, Call 1, Print, Jump 0"), function(1, 1, "Load 0, Get 0, IsRef, Return"))
	for _, steps := range []int{0, 1, 2, 50, 300, 10000} {
		whole := begun(t, p, 4)
		total, _ := whole.Run(steps)
		parts := begun(t, p, 4)
		for left := steps; left > 0; {
			fuel := min(left, chance.IntN(40))
			if _, e := parts.Run(fuel); e != api.OK {
				t.Fatalf("P5: Run(%d): %d", fuel, e)
			}
			left -= fuel
		}
		if a, b := toldMachine(whole), toldMachine(parts); a != b {
			t.Errorf("P7: %d steps (%d made): in one Run %s, in many %s", steps, total, a, b)
		}
	}
}

// TestCallsAtEveryState: P1. Asking changes nothing, whatever state the machine is in.
func TestCallsAtEveryState(t *testing.T) {
	for _, text := range []string{"Halt", "Nil, Return", "Nil, Print, Halt", "Record 0, Get 0, Print, Halt", "Int 13, Array, Halt", "Call 0, Return", "Record 0, Record 0, Halt", "Int 0, Print, Jump 0", "Jump 0"} {
		m := begun(t, mainOf(1, text), 1)
		for range 2 {
			was := toldMachine(m)
			if s := toldMachine(m); s != was || strings.Contains(s, "?") {
				t.Errorf("P6: %s: told %s, then %s", text, was, s)
			}
			if _, e := m.Run(api.MaxFuel); e != api.OK {
				t.Errorf("P5: %s: Run: %d", text, e)
			}
		}
	}
}
