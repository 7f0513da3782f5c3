package slumber_test

import (
	"fmt"
	"slices"
	"strconv"
	"strings"
	"testing"

	"slumber/api"
	"slumber/slumber"
)

// opNames are the operations' names, in the order of their numbers.
const opNames = "Int Nil Load Store Dup Pop Swap Add Sub Mul Less Same Jump JumpNot Call Return Record Array Weak Get Put At Set Len Strong IsRef Print Halt"

// words are instructions written as in the document: with their A behind them, if it says something, and commas between.
func words(text string) []api.Instr {
	names := strings.Fields(opNames)
	var l []api.Instr
	for _, w := range strings.Split(text, ",") {
		parts := strings.Fields(w)
		i := api.Instr{Op: slices.Index(names, parts[0])}
		if i.Op < 0 {
			panic("no operation: " + w)
		}
		if len(parts) > 1 {
			a, err := strconv.Atoi(parts[1])
			if err != nil {
				panic(err)
			}
			i.A = a
		}
		l = append(l, i)
	}
	return l
}

func function(params, locals int, text string) api.Func {
	return api.Func{Params: params, Locals: locals, Code: words(text)}
}

// mainOf is a program of one function.
func mainOf(locals int, text string) api.Program { return program(function(0, locals, text)) }

// begun is a machine that New must give.
func begun(t *testing.T, p api.Program, capacity int) *slumber.Machine {
	t.Helper()
	m, e := slumber.New(p, capacity)
	if m == nil || e != api.OK {
		t.Fatalf("P4: New(%v, %d) = %v, %d", p, capacity, m, e)
	}
	return m
}

// behind is a machine that has made so many steps, which there must be.
func behind(t *testing.T, p api.Program, capacity, steps int) *slumber.Machine {
	t.Helper()
	m := begun(t, p, capacity)
	wantRun(t, m, steps, steps)
	return m
}

func wantRun(t *testing.T, m *slumber.Machine, fuel, steps int) {
	t.Helper()
	if n, e := m.Run(fuel); n != steps || e != api.OK {
		t.Errorf("P5: Run(%d) = %d, %d, want %d, 0", fuel, n, e, steps)
	}
}

func wantState(t *testing.T, m *slumber.Machine, state int) {
	t.Helper()
	if s := m.Status(); s.State != state {
		t.Errorf("P6: the state is %d, want %d", s.State, state)
	}
}

func wantOutput(t *testing.T, m *slumber.Machine, want ...int) {
	t.Helper()
	if l := m.Output(); !slices.Equal(l, want) {
		t.Errorf("P6: Output = %v, want %v", l, want)
	}
}

// wantEnd lets a machine run to its end.
func wantEnd(t *testing.T, m *slumber.Machine, steps, state int, output ...int) {
	t.Helper()
	wantRun(t, m, api.MaxFuel, steps)
	wantState(t, m, state)
	wantOutput(t, m, output...)
}

// told is a value as the tests write it: nil, an int, or # and a slot.
func told(v api.Value) string {
	switch {
	case v == api.Value{}:
		return "nil"
	case v.Kind == api.IntValue:
		return strconv.Itoa(v.N)
	case v.Kind == api.RefValue:
		return "#" + strconv.Itoa(v.N)
	}
	return fmt.Sprintf("?%v", v)
}

func toldAll(l []api.Value) string {
	var s []string
	for _, v := range l {
		s = append(s, told(v))
	}
	return strings.Join(s, " ")
}

// toldFrames are frames as function@pc[locals|stack].
func toldFrames(l []api.Frame) string {
	var s []string
	for _, f := range l {
		s = append(s, fmt.Sprintf("%d@%d[%s|%s]", f.Func, f.Pc, toldAll(f.Locals), toldAll(f.Stack)))
	}
	return strings.Join(s, " ")
}

// toldHeap is a heap as a letter for each slot's kind, with the fields of what lies in it.
func toldHeap(l []api.Object) string {
	var s []string
	for _, o := range l {
		switch {
		case o.Kind == api.Free && len(o.Fields) == 0:
			s = append(s, "-")
		case o.Kind > api.Free && o.Kind <= api.WeakObject:
			s = append(s, fmt.Sprintf("%c[%s]", "-raw"[o.Kind], toldAll(o.Fields)))
		default:
			s = append(s, fmt.Sprintf("?%v", o))
		}
	}
	return strings.Join(s, " ")
}

// toldMachine is all that the calls tell of a machine.
func toldMachine(m *slumber.Machine) string {
	return fmt.Sprintf("%v; %v; %s; %s", m.Status(), m.Output(), toldFrames(m.Frames()), toldHeap(m.Heap()))
}

func wantFrames(t *testing.T, m *slumber.Machine, want string) {
	t.Helper()
	if s := toldFrames(m.Frames()); s != want {
		t.Errorf("P6: the frames are %s, want %s", s, want)
	}
}

// wantHeap: of a machine that has no draws.
func wantHeap(t *testing.T, m *slumber.Machine, want string) {
	t.Helper()
	wantLaid(t, m, want, 0)
}

// wantLaid: what lies where, and how many draws are left.
func wantLaid(t *testing.T, m *slumber.Machine, want string, draws int) {
	t.Helper()
	if s := toldHeap(m.Heap()); s != want {
		t.Errorf("P6, P8: the heap is %s, want %s", s, want)
	}
	taken := len(m.Heap()) - strings.Count(want, "-")
	if s := m.Status(); s.Objects != taken || s.Draws != draws {
		t.Errorf("P6: Status = %+v, want %d objects, %d draws", s, taken, draws)
	}
}
