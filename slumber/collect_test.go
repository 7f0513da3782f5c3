package slumber_test

import (
	"fmt"
	"math/rand/v2"
	"slices"
	"strings"
	"testing"

	"slumber/api"
	"slumber/slumber"
)

func wantCollect(t *testing.T, m *slumber.Machine, freed int) {
	t.Helper()
	if n := m.Collect(); n != freed {
		t.Errorf("P10: Collect = %d, want %d", n, freed)
	}
}

// TestCollectFreesWhatIsNotAlive: behind all of the instructions.
func TestCollectFreesWhatIsNotAlive(t *testing.T) {
	for _, c := range []struct {
		name, text string
		freed      int
		heap       string
	}{
		{"nothing there", "Nil", 0, "- - - - -"},
		{"all alive, by the stack, a local, a field", "Record 1, Dup, Int 0, Array, Put 0, Record 2, Store 0", 0, "r[#1] a[] r[nil nil] - -"},
		{"on the stack, below another value", "Record 0, Int 1", 0, "r[] - - - -"},
		{"twice on the stack", "Record 0, Dup", 0, "r[] - - - -"},
		{"by the last local", "Record 0, Store 1", 0, "r[] - - - -"},
		{"what has been popped", "Record 0, Pop, Record 1", 1, "- r[nil] - - -"},
		{"what is alive stays where it is", "Record 0, Pop, Record 1, Record 2, Pop, Record 3, Dup, Pop", 2, "- r[nil] - r[nil nil nil] -"},
		{"an int is no reference", "Record 0, Pop, Int 0", 1, "- - - - -"},
		{"by a field", "Record 2, Dup, Record 1, Put 1", 0, "r[nil #1] r[nil] - - -"},
		{"by a field that has another value now", "Record 2, Dup, Record 1, Put 1, Dup, Int 1, Put 1", 1, "r[nil 1] - - - -"},
		{"by a place", "Int 2, Array, Dup, Int 1, Record 1, Set", 0, "a[nil #1] r[nil] - - -"},
		{"by a field of what is not alive", "Record 1, Record 0, Put 0", 2, "- - - - -"},
		{"a ring that nobody refers to", "Record 1, Store 0, Record 1, Store 1, Load 0, Load 1, Put 0, Load 1, Load 0, Put 0, Nil, Store 0, Nil, Store 1", 2, "- - - - -"},
		{"a ring that is alive", "Record 1, Store 0, Record 1, Store 1, Load 0, Load 1, Put 0, Load 1, Load 0, Put 0, Nil, Store 0", 0, "r[#1] r[#0] - - -"},
		{"by a weak object alone", "Record 0, Weak", 1, "- w[nil] - - -"},
		{"by a weak object and a local", "Record 0, Dup, Store 0, Weak", 0, "r[] w[#0] - - -"},
		{"by a weak object that is not alive", "Record 0, Weak, Pop", 2, "- - - - -"},
		{"alive, with a weak object that is not", "Record 0, Dup, Weak, Pop", 1, "r[] - - - -"},
		{"two weak objects to one", "Record 0, Dup, Weak, Store 0, Weak, Store 1", 1, "- w[nil] w[nil] - -"},
		{"a weak object to a weak object that is not alive", "Record 0, Dup, Store 0, Weak, Weak", 1, "r[] - w[nil] - -"},
		{"a weak object to one that is alive", "Record 0, Weak, Dup, Store 0, Weak", 1, "- w[nil] w[#1] - -"},
		{"a weak object in a field", "Record 1, Dup, Record 0, Weak, Put 0", 1, "r[#2] - w[nil] - -"},
		{"a weak object in a place", "Int 1, Array, Dup, Int 0, Record 0, Weak, Set", 1, "a[#2] - w[nil] - -"},
		{"what a weak object refers to has a field", "Record 1, Dup, Record 0, Put 0, Weak", 2, "- - w[nil] - -"},
		{"a weak object to what holds it", "Record 1, Dup, Dup, Weak, Put 0", 0, "r[#1] w[#0] - - -"},
		{"the same, not alive", "Record 1, Dup, Weak, Put 0", 2, "- - - - -"},
		{"all slots", "Record 0, Pop, Record 0, Pop, Record 0, Pop, Record 0, Pop, Record 0, Pop", 5, "- - - - -"},
	} {
		m := drawn(t, c.text, 5)
		frames, output := toldFrames(m.Frames()), m.Output()
		wantCollect(t, m, c.freed)
		wantHeap(t, m, c.heap)
		wantFrames(t, m, frames)
		wantOutput(t, m, output...)
		wantState(t, m, api.Running)
		wantCollect(t, m, 0)
		wantHeap(t, m, c.heap)
		wantRun(t, m, 2, 1)
		if t.Failed() {
			t.Fatalf("P10: %s: %s", c.name, c.text)
		}
	}
}

// TestCollectLooksAtAllFrames: what the frames that wait hold is alive, and what a frame held that has returned is not.
func TestCollectLooksAtAllFrames(t *testing.T) {
	p := program(function(0, 1, "Record 0, Store 0, Record 1, Record 2, Call 1, Pop, Halt"), function(1, 2, "Record 3, Store 1, Record 4, Nil, Store 0, Return"))
	m := behind(t, p, 6, 8)
	wantCollect(t, m, 0)
	wantRun(t, m, 2, 2)
	wantCollect(t, m, 1)
	wantHeap(t, m, "r[] r[nil] - r[nil nil nil] r[nil nil nil nil] -")
	wantRun(t, m, 1, 1)
	wantCollect(t, m, 1)
	wantHeap(t, m, "r[] r[nil] - - r[nil nil nil nil] -")
	wantRun(t, m, 1, 1)
	wantCollect(t, m, 1)
	wantHeap(t, m, "r[] r[nil] - - - -")
	wantEnd(t, m, 1, api.Halted)
	wantCollect(t, m, 2)
	wantHeap(t, m, "- - - - - -")
}

// TestCollectAtEveryState: behind a halt nothing is alive; behind a trap the values of the step are on the stack still.
func TestCollectAtEveryState(t *testing.T) {
	for _, c := range []struct {
		text         string
		state, freed int
		heap         string
	}{
		{"Halt", api.Halted, 0, "- - -"},
		{"Record 1, Store 0, Record 2, Halt", api.Halted, 2, "- - -"},
		{"Record 1, Return", api.Halted, 1, "- - -"},
		{"Record 1, Pop, Record 2, Print, Halt", api.BadKind, 1, "- r[nil nil] -"},
		{"Record 1, Pop, Record 2, Get 3, Print, Halt", api.BadIndex, 1, "- r[nil nil] -"},
		{"Record 1, Pop, Record 2, Int 13, Array, Halt", api.BadSize, 1, "- r[nil nil] -"},
		{"Record 1, Pop, Call 0, Halt", api.TooDeep, 3, "- - -"},
		{"Record 0, Record 1, Dup, Weak, Record 2, Halt", api.HeapFull, 0, "r[] r[nil] w[#1]"},
		{"Record 1, Pop, Int 3, Print, Jump 2", api.OutFull, 1, "- - -"},
	} {
		m := begun(t, mainOf(1, c.text), 3)
		if _, e := m.Run(api.MaxFuel); e != api.OK {
			t.Fatalf("P5: Run: %d", e)
		}
		frames, output := toldFrames(m.Frames()), m.Output()
		wantCollect(t, m, c.freed)
		wantHeap(t, m, c.heap)
		wantFrames(t, m, frames)
		wantOutput(t, m, output...)
		wantRun(t, m, 1, 0)
		wantState(t, m, c.state)
		if t.Failed() {
			t.Fatalf("P10: %s", c.text)
		}
	}
}

// TestCollectTakesNoDraw: nor does it choose slots; what is freed may be chosen by the next draw.
func TestCollectTakesNoDraw(t *testing.T) {
	m := begun(t, mainOf(0, "Record 0, Pop, Record 1, Record 2, Halt"), 4)
	draw(t, m, 2, 3, 2, 1)
	wantRun(t, m, 3, 3)
	wantLaid(t, m, "- - r[] r[nil]", 2)
	wantCollect(t, m, 1)
	wantLaid(t, m, "- - - r[nil]", 2)
	wantRun(t, m, 1, 1)
	wantLaid(t, m, "- - r[nil nil] r[nil]", 1)
}

// TestCollectDoesNotChangeWhatCameOut: P2. The weak object's field is cleared in the machine, not in the list.
func TestCollectDoesNotChangeWhatCameOut(t *testing.T) {
	m := drawn(t, "Record 0, Weak, Record 1, Pop", 3)
	slots, frames := m.Heap(), m.Frames()
	wantCollect(t, m, 2)
	if s := toldHeap(slots) + "; " + toldFrames(frames); s != "r[] w[#0] r[nil]; 0@4[nil nil|#1]" {
		t.Errorf("P2: what came out ahead of Collect is %s", s)
	}
}

// unseen tells of a machine all that no slot can be seen in: references tell the order in which objects are met, of which only those that are alive are told.
func unseen(m *slumber.Machine) string {
	slots := m.Heap()
	var met []int
	name := func(v api.Value) string {
		if v.Kind != api.RefValue {
			return told(v)
		}
		if !slices.Contains(met, v.N) {
			met = append(met, v.N)
		}
		return fmt.Sprint("#", slices.Index(met, v.N))
	}
	names := func(l []api.Value) string {
		var s []string
		for _, v := range l {
			s = append(s, name(v))
		}
		return strings.Join(s, " ")
	}
	all := []string{fmt.Sprint(m.Status().State, m.Output())}
	for _, f := range m.Frames() {
		all = append(all, fmt.Sprintf("%d@%d[%s|%s]", f.Func, f.Pc, names(f.Locals), names(f.Stack)))
	}
	weak := []int{}
	for i := 0; i < len(met); i++ {
		if o := slots[met[i]]; o.Kind == api.WeakObject {
			weak = append(weak, i)
		} else {
			all = append(all, fmt.Sprintf("%d: %d[%s]", i, o.Kind, names(o.Fields)))
		}
	}
	for _, i := range weak {
		v := slots[met[i]].Fields[0]
		if v.Kind == api.RefValue && !slices.Contains(met, v.N) {
			v = api.Value{}
		}
		all = append(all, fmt.Sprintf("%d: weak[%s]", i, name(v)))
	}
	return strings.Join(all, " ")
}

// disturb hands draws in and tidies up, by chance.
func disturb(chance *rand.Rand, m *slumber.Machine) {
	if chance.IntN(3) == 0 {
		m.Collect()
	}
	if chance.IntN(3) == 0 {
		m.Draw([]int{int(chance.Uint64()), chance.IntN(20) - 10, chance.IntN(3)})
	}
}

// TestNobodySeesDrawsOrCollect: P11. Programs by chance make the same steps, whatever the draws, whenever it is tidied up.
func TestNobodySeesDrawsOrCollect(t *testing.T) {
	moved := 0
	for seed := range uint64(500) {
		a := &author{Rand: rand.New(rand.NewPCG(seed, 11))}
		p, capacity := a.program(), 1+a.IntN(8)
		still, other := begun(t, p, capacity), begun(t, p, capacity)
		for steps := range 200 {
			disturb(a.Rand, other)
			if a, b := unseen(still), unseen(other); a != b {
				t.Fatalf("P11: seed %d, behind %d steps: with draws and Collect the machine is %s, without %s", seed, steps, b, a)
			}
			if toldFrames(still.Frames()) != toldFrames(other.Frames()) {
				moved++
			}
			n, _ := still.Run(1)
			wantRun(t, other, 1, n)
		}
	}
	t.Logf("%d times the objects lay elsewhere", moved)
	if moved == 0 {
		t.Error("the objects never lay elsewhere: it has not been tested")
	}
}

// TestNoSlotIsFreeMeansAllAreAlive: P11's last sentence, at machines that end with HeapFull.
func TestNoSlotIsFreeMeansAllAreAlive(t *testing.T) {
	for capacity := 1; capacity <= api.MaxCapacity; capacity++ {
		m := begun(t, mainOf(1, "Record 1, Dup, Load 0, Put 0, Record 0, Pop, Store 0, Jump 0"), capacity)
		chance := rand.New(rand.NewPCG(uint64(capacity), 2))
		for m.Status().State == api.Running {
			disturb(chance, m)
			wantRun(t, m, 1, 1)
		}
		wantState(t, m, api.HeapFull)
		wantCollect(t, m, 0)
		if s := m.Status(); s.Objects != capacity {
			t.Errorf("P11: HeapFull, with %d objects in %d slots", s.Objects, capacity)
		}
	}
}
