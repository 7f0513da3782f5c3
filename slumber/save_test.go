package slumber_test

import (
	"bytes"
	"encoding/binary"
	"encoding/hex"
	"fmt"
	"math"
	"strings"
	"testing"

	"slumber/api"
	"slumber/slumber"
)

// raw are bytes that are written as hexadecimal numbers.
func raw(text string) []byte {
	l, err := hex.DecodeString(strings.Join(strings.Fields(text), ""))
	if err != nil {
		panic(err)
	}
	return l
}

const (
	head  = "53 4c 4d 02 "
	seven = "01 00 00 03 00 0e 1a 00 1b 00 " // Int 7, Print, Halt
)

// sealed is an image of version 2 of which the parts 2 to 6 are written.
func sealed(text string) []byte { return seal(raw(head + text)) }

// partTwo is how a program is written.
func partTwo(p api.Program) string {
	var s scribe
	s.program(p)
	return hex.EncodeToString(s.bytes)
}

// wantImage asks for the parts 2 to 6, and that Save changes nothing and that the image is woken as itself.
func wantImage(t *testing.T, m *slumber.Machine, text string) {
	t.Helper()
	was := toldMachine(m)
	if l := m.Save(); !bytes.Equal(l, sealed(text)) {
		t.Errorf("P13: Save = % x, want % x", l, sealed(text))
	}
	if s := toldMachine(m); s != was {
		t.Errorf("P13: Save has changed %s into %s", was, s)
	}
	woken := woken(t, m.Save(), api.MaxCapacity)
	if l := woken.Save(); !bytes.Equal(l, m.Save()) {
		t.Errorf("P14: woken, it is saved as % x, was % x", l, m.Save())
	}
	if a, b := unseen(m), unseen(woken); a != b {
		t.Errorf("P14: woken it is %s, was %s", b, a)
	}
}

// woken is a machine that Wake must give.
func woken(t *testing.T, image []byte, capacity int, draws ...int) *slumber.Machine {
	t.Helper()
	m, e := slumber.Wake(image, capacity, draws)
	if m == nil || e != api.OK {
		t.Fatalf("P14: Wake(% x, %d, %v) = %v, %d", image, capacity, draws, m, e)
	}
	return m
}

func TestSaveExamples(t *testing.T) {
	m := begun(t, mainOf(0, "Int 7, Print, Halt"), 1)
	wantImage(t, m, seven+"00 00 01 00 00 00")
	wantRun(t, m, 2, 2)
	wantImage(t, m, seven+"00 01 0e 01 00 02 00")
	wantRun(t, m, 1, 1)
	wantImage(t, m, seven+"01 01 0e 00 00")
}

// TestSaveWritesTheSum: by the words of the document, of a machine whose sum they say.
func TestSaveWritesTheSum(t *testing.T) {
	l := begun(t, mainOf(0, "Int 7, Print, Halt"), 1).Save()
	register := uint32(math.MaxUint32)
	for _, b := range l[:len(l)-4] {
		for bit := range 8 {
			turn := register&1 != uint32(b>>bit)&1
			register /= 2
			if turn {
				register ^= 0xEDB88320
			}
		}
	}
	if sum := binary.LittleEndian.Uint32(l[len(l)-4:]); sum != math.MaxUint32-register {
		t.Errorf("P13: the sum is %x, want %x", sum, math.MaxUint32-register)
	}
}

// edges are ints at which their bytes grow longer, and their neighbours.
func edges() []int {
	l := append(wildInts(), 0, 1, 7)
	for bits := range 63 {
		n := 1 << bits
		l = append(l, n-1, n, n+1, -n-1, -n, -n+1)
	}
	return l
}

// TestSaveWritesInts: as an A, on the stack, put out, in a field.
func TestSaveWritesInts(t *testing.T) {
	for n, text := range map[int]string{0: "00", -1: "01", 1: "02", 63: "7e", -64: "7f", 64: "80 01", -65: "81 01", 8191: "fe 7f", -8192: "ff 7f", 8192: "80 80 01", math.MaxInt: "fe ff ff ff ff ff ff ff ff 01", math.MinInt: "ff ff ff ff ff ff ff ff ff 01"} {
		m := begun(t, alone(in(api.Int, n), plain(api.Halt)), 1)
		wantImage(t, m, "01 00 00 02 00 "+text+" 1b 00 00 00 01 00 00 00")
		wantRun(t, m, 1, 1)
		wantImage(t, m, "01 00 00 02 00 "+text+" 1b 00 00 00 01 00 01 01 "+text+" 00")
	}
	for _, n := range edges() {
		text := hex.EncodeToString(binary.AppendVarint(nil, int64(n)))
		m := behind(t, alone(plain(api.Nil), plain(api.Pop), in(api.Record, 1), plain(api.Dup), in(api.Int, n), in(api.Put, 0), in(api.Int, n), plain(api.Print), plain(api.Halt)), 1, 8)
		wantImage(t, m, "01 00 00 09 0100 0500 1002 0400 00"+text+"1400 00"+text+"1a00 1b00 00 01"+text+"01 00 08 02 00 01 01 01 01"+text)
	}
}

func TestSaveWritesThePartsOfTheProgram(t *testing.T) {
	p := program(function(0, 0, "Int -3, Call 2, Return"), function(0, 8, "Halt, Load 7"), function(1, 2, "Jump 1, Load 0, JumpNot 0, Int 300, Return"))
	m := begun(t, p, 3)
	wantImage(t, m, "03 000003 0005 0e04 0f00 000802 1b00 020e 010205 0c02 0200 0d00 00d804 0f00 00 00 01 0000 00")
	// All that there is of everything: sixty instructions, eight functions.
	whole := afterHalts(7, api.Func{Locals: 1, Code: code(many(59, in(api.Load, 0)), halts())})
	whole.Funcs[7].Code[0] = plain(api.Halt)
	m = begun(t, whole, 1)
	wantImage(t, m, "08"+strings.Repeat("00 00 01 1b 00", 7)+"00 01 3c 1b 00"+strings.Repeat("02 00", 58)+"1b 00 00 00 01 00 00 00")
}

// TestSaveAtEveryState: a trapped machine keeps its frames, a halted one has none.
func TestSaveAtEveryState(t *testing.T) {
	for _, c := range []struct {
		text  string
		state int
		image string
	}{
		{"Jump 0", api.Running, "01 000001 0c00 00 00 01 0000 00"},
		{"Halt", api.Halted, "01 000001 1b00 01 00 00 00"},
		{"Record 0, Return", api.Halted, "01 000002 1000 0f00 01 00 00 00"},
		{"Nil, Print, Halt", api.BadKind, "01 000003 0100 1a00 1b00 02 00 01 0001 00 00"},
		{"Record 0, Get 0, Return", api.BadIndex, "01 000003 1000 1300 0f00 03 00 01 0001 0200 01 0100"},
		{"Int 13, Array, Return", api.BadSize, "01 000003 001a 1100 0f00 04 00 01 0001 011a 00"},
		{"Call 0, Return", api.TooDeep, "01 000002 0e00 0f00 05 00 0c" + strings.Repeat("0000", 12) + "00"},
		{"Record 0, Record 0, Halt", api.HeapFull, "01 000003 1000 1000 1b00 06 00 01 0001 0200 01 0100"},
		{"Int 1, Print, Jump 0", api.OutFull, "01 000003 0002 1a00 0c00 07 28" + strings.Repeat("02", 40) + "01 0001 0102 00"},
	} {
		m := begun(t, mainOf(0, c.text), 1)
		if _, e := m.Run(1000); e != api.OK {
			t.Fatalf("P5: Run: %d", e)
		}
		wantState(t, m, c.state)
		wantImage(t, m, c.image)
		woken := woken(t, m.Save(), 1)
		wantState(t, woken, c.state)
		if c.state != api.Running {
			wantRun(t, woken, 10, 0)
		}
		if t.Failed() {
			t.Fatal(c.text)
		}
	}
}

// TestSaveWritesFrames: what a frame that waits has handed over is off its stack.
func TestSaveWritesFrames(t *testing.T) {
	p := program(function(0, 1, "Int 1, Int 2, Int 3, Call 1, Halt"), function(2, 3, "Load 0, Int 4, Call 2, Return"), function(1, 1, "Nil, Load 0, Return"))
	code := "03 000105 0002 0004 0006 0e02 1b00 020304 0200 0008 0e04 0f00 010103 0100 0200 0f00 00 00 "
	m := behind(t, p, 1, 3)
	wantImage(t, m, code+"01 0003 00 0102 0104 0106 00")
	wantRun(t, m, 1, 1)
	wantImage(t, m, code+"02 0003 00 0102 0100 0104 0106 00 00")
	wantRun(t, m, 5, 5)
	wantImage(t, m, code+"03 0003 00 0102 0102 0104 0106 00 0104 0202 0108 00 0108 00")
	wantRun(t, m, 1, 1)
	wantImage(t, m, code+"02 0003 00 0102 0103 0104 0106 00 0104 0108 00")
}

// TestSaveNumbersObjects: what is behind the output, of the machine behind all of the instructions; two locals.
func TestSaveNumbersObjects(t *testing.T) {
	for _, c := range []struct{ name, text, image string }{
		{"none", "Nil", "00 00 00 00"},
		{"an empty record", "Record 0, Store 0", "0200 00 01 0100"},
		{"an empty array", "Int 0, Array, Store 1", "00 0200 01 0200"},
		{"fields", "Record 3, Dup, Int -2, Put 1, Store 0", "0200 00 01 0103 00 0103 00"},
		{"places", "Int 2, Array, Dup, Int 1, Int 5, Set", "00 00 0200 01 0202 00 010a"},
		{"locals ahead of the stack", "Record 1, Record 2, Store 1, Record 3, Store 0", "0200 0201 0202 03 0103000000 01020000 010100"},
		{"the stack from the bottom up", "Record 1, Record 2, Record 3", "00 00 0200 0201 0202 03 010100 01020000 0103000000"},
		{"one object twice", "Record 0, Dup, Dup, Store 0", "0200 00 0200 0200 01 0100"},
		{"itself", "Record 2, Dup, Dup, Put 1", "00 00 0200 01 0102 00 0200"},
		{"a ring", "Record 1, Store 0, Record 2, Store 1, Load 0, Load 1, Put 0, Load 1, Load 0, Put 1, Nil, Store 0", "00 0200 02 0102 00 0201 0101 0200"},
		{"object by object, not down at once", "Record 2, Dup, Record 1, Dup, Record 3, Put 0, Put 0, Dup, Record 4, Put 1", "00 00 0200 04 0102 0201 0202 0101 0203 0104 00000000 0103 000000"},
		{"through places", "Int 2, Array, Dup, Int 1, Record 1, Set, Dup, Int 0, Record 2, Set", "00 00 0200 03 0202 0201 0202 01020000 010100"},
		{"the frames ahead of the fields", "Record 1, Dup, Record 2, Put 0, Record 3", "00 00 0200 0201 03 0101 0202 0103000000 01020000"},
		{"what is not alive", "Record 1, Pop, Record 2, Record 3, Pop", "00 00 0200 01 01020000"},
		{"what what is not alive refers to", "Record 1, Dup, Record 2, Put 0, Pop", "00 00 00"},
		{"a weak object to what is not alive", "Record 1, Weak", "00 00 0200 01 03 00"},
		{"a weak object to what is alive", "Record 1, Dup, Store 1, Weak", "00 0200 0201 02 0101 00 03 0200"},
		{"a weak object ahead of what it refers to", "Record 1, Dup, Weak, Store 0", "0200 00 0201 02 03 0201 0101 00"},
		{"a weak object to a weak object", "Record 1, Weak, Dup, Weak", "00 00 0200 0201 02 03 00 03 0200"},
		{"a weak object to one that is not alive", "Record 1, Dup, Weak, Weak", "00 00 0200 0201 02 0101 00 03 00"},
		{"through a weak object nothing is met", "Record 1, Dup, Record 2, Put 0, Dup, Weak, Store 0, Store 1", "0200 0201 03 03 0201 0101 0202 0102 0000"},
		{"nor is what only that refers to", "Record 1, Dup, Record 2, Put 0, Weak, Store 0", "0200 00 01 03 00"},
		{"a weak object to what holds it", "Record 1, Dup, Dup, Weak, Put 0", "00 00 0200 02 0101 0201 03 0200"},
		{"an int like a slot is no reference", "Record 1, Pop, Int 0", "00 00 0100 00"},
	} {
		l := words(c.text + ", Halt")
		at := fmt.Sprintf("00 00 01 00 %02x", len(l)-1)
		wantImage(t, drawn(t, c.text, 6), partTwo(program(api.Func{Locals: 2, Code: l}))+at+c.image)
		if t.Failed() {
			t.Fatalf("P13: %s: %s", c.name, c.text)
		}
	}
}

// TestSaveGoesThroughTheFramesFromTheFirstOn: and in each of them through the locals ahead of the stack.
func TestSaveGoesThroughTheFramesFromTheFirstOn(t *testing.T) {
	p := program(function(0, 1, "Record 1, Record 2, Store 0, Record 3, Call 1, Halt"), function(1, 2, "Record 4, Record 5, Store 1, Load 0, Halt"))
	m := behind(t, p, 9, 9)
	wantImage(t, m, "02 000106 1002 1004 0300 1006 0e02 1b00 010205 1008 100a 0302 0200 1b00 00 00 02 0004 0200 0201 0104 0202 0203 0204 0202"+
		"05 01020000 010100 0103000000 01050000000000 010400000000")
}

// TestSaveLeavesNoTrace: of draws, free slots, where objects lie, what is not alive, and whether it has been freed.
func TestSaveLeavesNoTrace(t *testing.T) {
	text := "Record 4, Pop, Record 2, Store 0, Record 3, Pop, Load 0, Record 1, Weak, Put 0, Load 0, Int 3, Array, Put 1, Load 0, Get 1, Weak, Store 1"
	want := drawn(t, text, 20).Save()
	for capacity := 5; capacity <= api.MaxCapacity; capacity++ {
		for _, draws := range [][]int{nil, {3, 1, 2}, {-1, -2, -3, -4, -5, -6, -7, -8}, make([]int, api.MaxDraws)} {
			m := drawn(t, text, capacity, draws...)
			for _, l := range [][]byte{m.Save(), collected(m).Save(), woken(t, m.Save(), capacity, draws...).Save()} {
				if !bytes.Equal(l, want) {
					t.Fatalf("P13: with %d slots and the draws %v: Save = % x, want % x", capacity, draws, l, want)
				}
			}
		}
	}
}

func collected(m *slumber.Machine) *slumber.Machine {
	m.Collect()
	return m
}

// TestAHaltedMachineHasNoObjects: they lie in their slots still, but nothing refers to them.
func TestAHaltedMachineHasNoObjects(t *testing.T) {
	m := behind(t, mainOf(1, "Record 3, Store 0, Record 2, Halt"), 4, 4)
	wantHeap(t, m, "r[nil nil nil] r[nil nil] - -")
	wantImage(t, m, "01 000104 1006 0300 1004 1b00 01 00 00 00")
	wantHeap(t, woken(t, m.Save(), 4), "- - - -")
}

// TestTheImageIsTheCallers: P2. It may be written into, and no later call changes it.
func TestTheImageIsTheCallers(t *testing.T) {
	p := mainOf(1, "Record 2, Store 0, Int 4, Print, Load 0, Load 0, Put 1, Int 9, Print, Halt")
	m, other := behind(t, p, 2, 4), behind(t, p, 2, 4)
	first, second := m.Save(), m.Save()
	was := bytes.Clone(first)
	scribble(second, 0xee)
	if !bytes.Equal(first, was) || !bytes.Equal(m.Save(), was) {
		t.Errorf("P2: an image that was written into has changed another: % x, was % x", first, was)
	}
	wantRun(t, m, 5, 5)
	scribble(m.Save(), 0xdd)
	if !bytes.Equal(first, was) || !bytes.Equal(other.Save(), was) {
		t.Errorf("P2: the image is % x, was % x", first, was)
	}
	wantEnd(t, m, 1, api.Halted, 4, 9)
}

// longest is a machine of which all is as long as may be: every number ahead of the objects, and each of these an array of the longest ints.
func longest() *model {
	m := &model{state: api.OutFull}
	deep := code(many(api.MaxHeight-1, in(api.Int, math.MinInt)), one(in(api.Call, 7)), many(api.MaxCode-api.MaxHeight-1, in(api.Int, math.MinInt)), halts())
	deep[api.MaxHeight] = plain(api.Halt)
	for range api.MaxFuncs {
		m.program.Funcs = append(m.program.Funcs, api.Func{Locals: api.MaxLocals, Code: deep})
	}
	ints := func(n int) []any {
		l := make([]any, n)
		for i := range l {
			l[i] = math.MinInt
		}
		return l
	}
	for i := range api.MaxFrames {
		m.frames = append(m.frames, &modelFrame{min(i, 1) * 7, api.MaxHeight - 1, ints(api.MaxLocals), ints(api.MaxHeight - 1)})
	}
	for range api.MaxOutput {
		m.output = append(m.output, math.MinInt)
	}
	var below any = 0
	for range api.MaxCapacity {
		o := &modelObject{api.ArrayObject, append(ints(api.MaxArray-1), below)}
		m.slots = append(m.slots, o)
		below = o
	}
	m.frames[0].locals[0] = below
	return m
}

func TestTheLongestImage(t *testing.T) {
	image := longest().image(false)
	m := woken(t, image, api.MaxCapacity)
	if l := m.Save(); !bytes.Equal(l, image) {
		t.Errorf("P13: an image of %d bytes is saved as one of %d", len(image), len(l))
	}
	if len(image) < 12000 || len(image) > api.MaxImage {
		t.Errorf("the longest image has %d bytes: it has not been tested", len(image))
	}
}
