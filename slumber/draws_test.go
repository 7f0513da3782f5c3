package slumber_test

import (
	"math/big"
	"slices"
	"strings"
	"sync"
	"testing"

	"slumber/api"
	"slumber/slumber"
)

func draw(t *testing.T, m *slumber.Machine, l ...int) {
	t.Helper()
	if e := m.Draw(l); e != api.OK {
		t.Errorf("P9: Draw(%v) = %d, want 0", l, e)
	}
}

// wantTooLong: the draws are refused, and all is as it was.
func wantTooLong(t *testing.T, m *slumber.Machine, l []int) {
	t.Helper()
	was := toldMachine(m)
	if e := m.Draw(l); e != api.ErrLong {
		t.Errorf("P9: Draw of %d draws = %d, want ErrLong", len(l), e)
	}
	if s := toldMachine(m); s != was {
		t.Errorf("P1: draws that were refused have changed %s into %s", was, s)
	}
}

// drawn is a machine with its draws, behind all of the instructions.
func drawn(t *testing.T, text string, capacity int, draws ...int) *slumber.Machine {
	t.Helper()
	l := words(text + ", Halt")
	m := begun(t, program(api.Func{Locals: 2, Code: l}), capacity)
	draw(t, m, draws...)
	wantRun(t, m, len(l)-1, len(l)-1)
	return m
}

// TestDrawsChooseSlots: what lies where behind all of the instructions, and how many draws are left.
func TestDrawsChooseSlots(t *testing.T) {
	for _, c := range []struct {
		name, text string
		capacity   int
		draws      []int
		heap       string
		left       int
	}{
		{"the document's 7", "Record 2, Store 0", 3, []int{7}, "- r[nil nil] -", 0},
		{"the document's -1", "Record 2, Store 0", 3, []int{-1}, "- - r[nil nil]", 0},
		{"none", "Record 0, Record 1", 3, nil, "r[] r[nil] -", 0},
		{"in their order", "Record 0, Record 1, Record 2", 4, []int{2, 0, 3}, "r[nil] - r[] r[nil nil]", 0},
		{"all kinds of objects", "Record 0, Weak, Int 1, Array", 3, []int{2, 1, 0}, "a[nil] w[#2] r[]", 0},
		{"no more than are needed", "Record 0, Record 1", 3, []int{2, 1, 5, 6}, "- r[nil] r[]", 2},
		{"one whose slot is not free is taken away all the same", "Record 0, Record 1, Record 2", 4, []int{2, 2, 3}, "r[nil] - r[] r[nil nil]", 0},
		{"not free, and the least free one is not the first", "Record 0, Record 1, Record 2", 4, []int{0, 4, -4}, "r[] r[nil] r[nil nil] -", 0},
		{"not free, and the least free one is below", "Record 0, Record 1, Record 2", 4, []int{3, 3, 3}, "r[nil] r[nil nil] - r[]", 0},
		{"behind the last draw the least free one", "Record 0, Record 1, Record 2", 4, []int{1}, "r[nil] r[] r[nil nil] -", 0},
		{"what is not alive keeps its slot while there is room", "Record 0, Pop, Record 1", 3, []int{1, 1}, "r[nil] r[] -", 0},
		{"to the last free slot", "Record 0, Pop, Record 1", 2, []int{1, 1}, "r[nil] r[]", 0},
		{"and loses it where no slot is free", "Record 0, Pop, Record 1, Pop, Record 2", 2, []int{0, 1, 1}, "- r[nil nil]", 0},
		{"all that is not alive is freed, not the draw's slot alone", "Record 0, Pop, Record 1, Pop, Record 2, Pop, Record 3", 3, []int{0, 1, 2, 1}, "- r[nil nil nil] -", 0},
		{"freed, and the draw's slot is still not free", "Record 0, Pop, Record 1, Record 2, Pop, Record 3", 3, []int{0, 2, 1, 2}, "r[nil nil nil] - r[nil]", 0},
		{"a weak object of what is freed does not refer to what a draw lays there", "Record 0, Weak, Record 1", 2, []int{1, 0, 1}, "w[nil] r[nil]", 0},
		{"a heap of one slot", "Record 0, Pop, Record 1", 1, []int{-7, 9, 3}, "r[nil]", 1},
		{"other operations take none", "Int 3, Dup, Mul, Print, Record 1, Store 0, Load 0, Load 0, Len, Put 0, Load 0, Get 0, Store 1", 3, []int{1, 2}, "- r[1] -", 1},
	} {
		wantLaid(t, drawn(t, c.text, c.capacity, c.draws...), c.heap, c.left)
		if t.Failed() {
			t.Fatalf("P8: %s: %s", c.name, c.text)
		}
	}
}

// TestDrawsModuloTheCapacity: every capacity, draws of every sign and size.
func TestDrawsModuloTheCapacity(t *testing.T) {
	draws := wildInts()
	for d := -2*api.MaxCapacity - 1; d <= 2*api.MaxCapacity+1; d++ {
		draws = append(draws, d)
	}
	for capacity := 1; capacity <= api.MaxCapacity; capacity++ {
		for _, d := range draws {
			l := drawn(t, "Record 0", capacity, d).Heap()
			slot := slices.IndexFunc(l, func(o api.Object) bool { return o.Kind == api.RecordObject })
			want := new(big.Int).Mod(big.NewInt(int64(d)), big.NewInt(int64(capacity))).Int64()
			if slot != int(want) {
				t.Errorf("P8: the draw %d of %d slots chose %d, want %d", d, capacity, slot, want)
			}
		}
	}
}

// TestDrawsJoinBehind: draws that are handed in later are taken later, however they came.
func TestDrawsJoinBehind(t *testing.T) {
	m := begun(t, mainOf(0, "Record 0, Record 1, Record 2, Record 3, Record 4, Halt"), 6)
	draw(t, m, 5)
	draw(t, m)
	draw(t, m, 3, 4)
	wantLaid(t, m, "- - - - - -", 3)
	wantRun(t, m, 2, 2)
	wantLaid(t, m, "- - - r[nil] - r[]", 1)
	draw(t, m, 1)
	wantRun(t, m, 3, 3)
	wantLaid(t, m, "r[nil nil nil nil] r[nil nil nil] - r[nil] r[nil nil] r[]", 0)
}

func TestNoMoreThanMaxDraws(t *testing.T) {
	m := begun(t, mainOf(1, "Record 0, Store 0, Jump 0"), 3)
	wantTooLong(t, m, make([]int, api.MaxDraws+1))
	wantTooLong(t, m, make([]int, 100000))
	draw(t, m, make([]int, api.MaxDraws-1)...)
	wantTooLong(t, m, make([]int, 2))
	draw(t, m, 2)
	wantTooLong(t, m, []int{1})
	wantTooLong(t, m, make([]int, api.MaxDraws))
	draw(t, m)
	draw(t, m, []int{}...)
	wantLaid(t, m, "- - -", api.MaxDraws)
	// Each draw that is taken makes room for another.
	wantRun(t, m, 4, 4)
	wantTooLong(t, m, make([]int, 3))
	draw(t, m, 1, 1)
	wantTooLong(t, m, []int{1})
	whole := begun(t, mainOf(0, "Halt"), 1)
	draw(t, whole, make([]int, api.MaxDraws)...)
	wantLaid(t, whole, "-", api.MaxDraws)
}

// TestDrawsAtEveryState: draws join a machine that will take no more of them, too.
func TestDrawsAtEveryState(t *testing.T) {
	for text, left := range map[string]int{"Halt": 2, "Nil, Print, Halt": 2, "Record 0, Record 0, Halt": 1} {
		m := begun(t, mainOf(0, text), 1)
		draw(t, m, 7, 8)
		if _, e := m.Run(api.MaxFuel); e != api.OK {
			t.Fatalf("P5: Run: %d", e)
		}
		draw(t, m, 9)
		wantTooLong(t, m, make([]int, api.MaxDraws))
		if n := m.Status().Draws; n != left+1 {
			t.Errorf("P9: %s: %d draws are left, want %d", text, n, left+1)
		}
	}
}

// TestTrapsTakeNoDraw: a step that traps leaves the draws as they were.
func TestTrapsTakeNoDraw(t *testing.T) {
	for text, state := range map[string]int{
		"Record 0, Record 0, Record 0":     api.HeapFull,
		"Record 0, Record 0, Weak":         api.HeapFull,
		"Record 0, Record 0, Int 0, Array": api.HeapFull,
		"Record 0, Int 13, Array":          api.BadSize,
		"Record 0, Nil, Array":             api.BadKind,
		"Record 0, Int 4, Weak":            api.BadKind,
		"Record 0, Get 0":                  api.BadIndex,
	} {
		m := begun(t, mainOf(0, text+", Halt"), 2)
		draw(t, m, 1, 1, 0, 1)
		steps := strings.Count(text, ",")
		wantRun(t, m, steps, steps)
		wantTrapNext(t, m, state)
	}
}

// TestTheDrawsAreNotKept: P2. The list is the caller's, with its spare room, and may be handed to two machines.
func TestTheDrawsAreNotKept(t *testing.T) {
	p := mainOf(0, "Record 0, Record 1, Record 2, Halt")
	a, b := begun(t, p, 5), begun(t, p, 5)
	l := []int{4, 2, 9, 9, 9, 9}
	draw(t, a, l[:2]...)
	draw(t, b, l[:2]...)
	draw(t, a, 1)
	draw(t, b, 3)
	wantRun(t, a, 1, 1)
	if want := []int{4, 2, 9, 9, 9, 9}; !slices.Equal(l, want) {
		t.Errorf("P2: the draws that were handed in are %v, were %v", l, want)
	}
	scribble(l, 0)
	wantRun(t, a, 2, 2)
	wantLaid(t, a, "- r[nil nil] r[nil] - r[]", 0)
	wantLaid(t, b, "- - - - -", 3)
	wantRun(t, b, 3, 3)
	wantLaid(t, b, "- - r[nil] r[nil nil] r[]", 0)
}

// TestMachinesWithDrawsAtOnce: P2. Many machines, each with the same list of draws.
func TestMachinesWithDrawsAtOnce(t *testing.T) {
	p := mainOf(1, "Record 1, Dup, Load 0, Put 0, Store 0, Jump 0")
	l := []int{3, -1, 8, 0, 5, 3}
	want := ""
	told := make([]string, 16)
	var wait sync.WaitGroup
	for i := range told {
		wait.Go(func() {
			m := begun(t, p, 7)
			draw(t, m, l...)
			wantRun(t, m, 30, 30)
			m.Collect()
			told[i] = toldMachine(m)
		})
	}
	wait.Wait()
	for _, s := range told {
		if want == "" {
			want = s
		}
		if s != want {
			t.Errorf("P2: machines of the same program and draws are %s and %s", want, s)
		}
	}
}
