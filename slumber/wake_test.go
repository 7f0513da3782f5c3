package slumber_test

import (
	"bytes"
	"slices"
	"strings"
	"sync"
	"testing"

	"slumber/api"
	"slumber/slumber"
)

// wantAsleep: the image is refused for that.
func wantAsleep(t *testing.T, name string, image []byte, capacity, draws int, want api.Errno) {
	t.Helper()
	if m, e := slumber.Wake(image, capacity, make([]int, draws)); m != nil || e != want {
		t.Errorf("P14: %s: Wake(% x, %d, %d draws) = %v, %d, want nil, %d", name, image[:min(len(image), 200)], capacity, draws, m != nil, e, want)
	}
}

// good is an image with two objects.
func good() []byte { return sealed(seven + "00 00 01 00 01 02 00 02 01 01 02 01 01 00") }

func changed(l []byte, at int, to byte) []byte {
	l = bytes.Clone(l)
	l[at] = to
	return l
}

// TestWakeTellsTheErrorNamedFirst: each, with all that come behind it.
func TestWakeTellsTheErrorNamedFirst(t *testing.T) {
	most := api.MaxDraws + 1
	wantAsleep(t, "too many bytes", make([]byte, api.MaxImage+1), 0, most, api.ErrLong)
	wantAsleep(t, "far too many bytes", make([]byte, 1000000), 0, most, api.ErrLong)
	wantAsleep(t, "an image that is too long", seal(append(raw(head), make([]byte, api.MaxImage)...)), 0, most, api.ErrLong)
	for n := range 8 {
		wantAsleep(t, "the beginning of an image", good()[:n], 0, most, api.ErrShort)
		wantAsleep(t, "too few bytes", make([]byte, n), 0, most, api.ErrShort)
	}
	wantAsleep(t, "no bytes", nil, 0, most, api.ErrShort)
	for _, s := range []string{"SLN\x03", "SMM\x03", "TLM\x03", "slm\x03", "\x00\x00\x00\x00", "MLS\x02", "SL\x02M", " SLM"} {
		wantAsleep(t, "another beginning", []byte(s+"1234"), 0, most, api.ErrMagic)
		wantAsleep(t, "another beginning, with its sum", seal([]byte(s)), 0, most, api.ErrMagic)
	}
	wantAsleep(t, "as many bytes as may be", make([]byte, api.MaxImage), 0, most, api.ErrMagic)
	for v := range 256 {
		want := api.ErrVersion
		if v == 1 || v == 2 {
			want = api.ErrSum
		}
		wantAsleep(t, "a version", changed([]byte("SLM 1234"), 3, byte(v)), 0, most, want)
		if want == api.ErrVersion {
			l := changed(good(), 3, byte(v))
			wantAsleep(t, "a version, with the sum", seal(l[:len(l)-4]), 0, most, want)
		}
	}
	for _, v := range []byte{1, 2} {
		wantAsleep(t, "nothing in it", seal([]byte{'S', 'L', 'M', v}), 0, most, api.ErrForm)
		long := append([]byte{'S', 'L', 'M', v}, make([]byte, api.MaxImage-8)...)
		wantAsleep(t, "as many bytes as may be, with the sum", seal(long), 0, most, api.ErrForm)
	}
	for _, capacity := range append(wildInts(), 0, 1, api.MaxCapacity+1) {
		wantAsleep(t, "a capacity", good(), capacity, most, api.ErrRoom)
	}
	wantAsleep(t, "too many draws", good(), 2, most, api.ErrLong)
	wantAsleep(t, "far too many draws", good(), 2, 100000, api.ErrLong)
	woken(t, good(), 2, make([]int, api.MaxDraws)...)
	woken(t, good(), api.MaxCapacity)
}

// TestWakeLooksAtTheSum: whichever byte is another one.
func TestWakeLooksAtTheSum(t *testing.T) {
	for _, l := range [][]byte{good(), seal(raw("53 4c 4d 01" + "01000000 00000000 00000000 01000000 1b000000 00000000 01000000 00000000 00000000"))} {
		woken(t, l, 2)
		for at := 4; at < len(l); at++ {
			for bit := range 8 {
				wantAsleep(t, "a bit is turned", changed(l, at, l[at]^1<<bit), 0, 201, api.ErrSum)
			}
		}
		for n := 8; n < len(l); n++ {
			wantAsleep(t, "the end is missing", l[:n], 2, 0, api.ErrSum)
		}
		wantAsleep(t, "a byte more", append(bytes.Clone(l), 0), 2, 0, api.ErrSum)
		turned := bytes.Clone(l)
		slices.Reverse(turned[len(turned)-4:])
		wantAsleep(t, "the sum's highest byte first", turned, 2, 0, api.ErrSum)
	}
}

// TestWakeAsksForRoom: as many slots as there are objects.
func TestWakeAsksForRoom(t *testing.T) {
	m := begun(t, mainOf(1, "Record 1, Dup, Load 0, Put 0, Store 0, Jump 0"), api.MaxCapacity)
	for n := range api.MaxCapacity + 1 {
		image := m.Save()
		for capacity := 0; capacity <= api.MaxCapacity+1; capacity++ {
			if capacity < max(n, 1) || capacity > api.MaxCapacity {
				wantAsleep(t, "room", image, capacity, 0, api.ErrRoom)
				continue
			}
			if s := woken(t, image, capacity, 5).Status(); s.Objects != n || len(m.Heap()) != api.MaxCapacity {
				t.Errorf("P14: %d objects in %d slots are %+v", n, capacity, s)
			}
		}
		m.Run(6)
	}
	wantState(t, m, api.HeapFull)
}

// TestWakeLaysObjectsByTheirNumbers: a record of one field, one of two and so on.
func TestWakeLaysObjectsByTheirNumbers(t *testing.T) {
	rows := sealed("01 000001 1b00 00 00 01 00 00 00") // without objects
	three := sealed("01 000304 1002 1004 1006 1b00 00 00 01 0000 0200 0201 0202 03 010100 01020000 0103000000")
	deep := sealed("01 000101 1b00 00 00 01 0000 0200 03 0102 0201 0202 0201 0200 03 0201") // a record of an array and a weak object
	for _, c := range []struct {
		name     string
		image    []byte
		capacity int
		draws    []int
		heap     string
		left     int
	}{
		{"none", rows, 2, []int{1, 1}, "- -", 2},
		{"the least free one", three, 4, nil, "r[nil] r[nil nil] r[nil nil nil] -", 0},
		{"as many as there are", three, 3, nil, "r[nil] r[nil nil] r[nil nil nil]", 0},
		{"by draws", three, 4, []int{3, 1, 2}, "- r[nil nil] r[nil nil nil] r[nil]", 0},
		{"by draws modulo the capacity", three, 4, []int{7, -3, 1 << 62}, "r[nil nil nil] r[nil nil] - r[nil]", 0},
		{"a slot that is not free", three, 4, []int{2, 2, 2, 2}, "r[nil nil] r[nil nil nil] r[nil] -", 1},
		{"too few draws", three, 5, []int{1}, "r[nil nil] r[nil] r[nil nil nil] - -", 0},
		{"draws that are left", three, 5, []int{4, 3, 2, 1, 0}, "- - r[nil nil nil] r[nil nil] r[nil]", 2},
		{"references", deep, 3, nil, "r[#1 #2] a[#0] w[#1]", 0},
		{"references, elsewhere", deep, 5, []int{3, 0, 4}, "a[#3] - - r[#0 #4] w[#0]", 0},
		{"references, in a ring", deep, 3, []int{1, 2, 0}, "w[#2] r[#2 #0] a[#1]", 0},
	} {
		m := woken(t, c.image, c.capacity, c.draws...)
		wantLaid(t, m, c.heap, c.left)
		if l := m.Save(); !bytes.Equal(l, c.image) {
			t.Errorf("P15: % x is saved as % x", c.image, l)
		}
		if t.Failed() {
			t.Fatalf("P14: %s", c.name)
		}
	}
	wantFrames(t, woken(t, three, 4, 3, 1, 2), "0@0[#3 #1 #2|]")
	wantFrames(t, woken(t, deep, 5, 3, 0, 4), "0@0[#3|]")
}

// TestTheDrawsThatAreLeftComeNext: behind Wake they are taken in their order.
func TestTheDrawsThatAreLeftComeNext(t *testing.T) {
	image := behind(t, mainOf(1, "Record 1, Store 0, Record 2, Record 3, Record 4, Halt"), 9, 2).Save()
	m := woken(t, image, 6, 5, 3, 3, 1)
	wantLaid(t, m, "- - - - - r[nil]", 3)
	wantRun(t, m, 2, 2)
	wantLaid(t, m, "r[nil nil nil] - - r[nil nil] - r[nil]", 1)
	draw(t, m, 4)
	wantEnd(t, m, 2, api.Halted)
	wantLaid(t, m, "r[nil nil nil] r[nil nil nil nil] - r[nil nil] - r[nil]", 1)
}

// TestAWokenMachineGoesOn: from each of its steps to the end, with what it put out ahead of its sleep.
func TestAWokenMachineGoesOn(t *testing.T) {
	p := program(
		function(0, 2, "Int 4, Store 0, Load 0, Call 1, Dup, Print, Record 1, Dup, Load 1, Put 0, Store 1, Pop, Load 0, Int 1, Sub, Store 0, Load 0, JumpNot 19, Jump 2, Load 1, Weak, Strong, Get 0, Get 0, IsRef, Print, Halt"),
		function(1, 1, "Load 0, JumpNot 9, Load 0, Int 1, Sub, Call 1, Load 0, Add, Return, Int 0, Return"),
	)
	whole := begun(t, p, 5)
	steps, _ := whole.Run(api.MaxFuel)
	wantState(t, whole, api.Halted)
	wantOutput(t, whole, 10, 6, 3, 1, 1)
	for n := range steps + 1 {
		for capacity := 5; capacity < 9; capacity++ {
			m := woken(t, behind(t, p, 5, n).Save(), capacity, 7, -1, 3)
			wantEnd(t, m, steps-n, api.Halted, 10, 6, 3, 1, 1)
		}
	}
}

// TestWakeKeepsAndWritesNothing: P2. Neither the image nor the draws, nor their spare rooms.
func TestWakeKeepsAndWritesNothing(t *testing.T) {
	for _, l := range [][]byte{good(), seal(raw(head + seven)), good()[:20], good()[:5], changed(good(), 3, 9)} {
		room := append(bytes.Clone(l), 0xa1, 0xa2, 0xa3, 0xa4, 0xa5, 0xa6)
		draws := []int{5, 1, 2, -77, -78}
		was, wasDraws := bytes.Clone(room), slices.Clone(draws)
		m, _ := slumber.Wake(room[:len(l)], 7, draws[:3])
		n, _ := slumber.Wake(room[:len(l)], 7, draws[:3])
		if m != nil {
			draw(t, m, 6)
			wantRun(t, m, 100, 1)
			draw(t, n, 4)
		}
		if !bytes.Equal(room, was) || !slices.Equal(draws, wasDraws) {
			t.Errorf("P2: Wake has written into its image or its draws: % x, were % x; %v, were %v", room, was, draws, wasDraws)
		}
		if m == nil {
			continue
		}
		told := toldMachine(n)
		scribble(room, 0xee)
		scribble(draws, 0)
		if s := toldMachine(n); s != told || !bytes.Equal(n.Save(), good()) {
			t.Errorf("P2: a machine has changed with its image and its draws: %s, was %s", s, told)
		}
		wantLaid(t, n, "- r[] - - - r[#1] -", 2)
	}
}

// TestWokenMachinesAreTheirOwn: P2. Two of one image do not change each other, nor does what they tell.
func TestWokenMachinesAreTheirOwn(t *testing.T) {
	p := program(function(0, 1, "Record 2, Store 0, Int 3, Print, Load 0, Call 1, Print, Halt"), function(1, 2, "Int 2, Array, Store 1, Load 1, Int 0, Load 0, Set, Load 0, Load 1, Put 1, Load 0, Int 8, Put 0, Int 4, Int 5, Add, Return"))
	image := behind(t, p, 4, 10).Save()
	left, asked := woken(t, image, 4), woken(t, image, 4)
	for range 15 {
		scribbleAll(asked.Output(), asked.Frames(), asked.Heap())
		scribble(asked.Save(), 0xee)
		if a, b := toldMachine(left), toldMachine(asked); a != b {
			t.Fatalf("P2: the machine is %s, with its lists written into %s", a, b)
		}
		wantRun(t, left, 1, 1)
		still := woken(t, image, 4)
		wantRun(t, asked, 1, 1)
		if l := still.Save(); !bytes.Equal(l, image) {
			t.Fatalf("P2: another machine's steps have changed % x into % x", image, l)
		}
	}
	wantEnd(t, left, 0, api.Halted, 3, 9)
}

// TestWakeManyAtOnce: P2. One image, woken, run and saved by many at the same time.
func TestWakeManyAtOnce(t *testing.T) {
	image := behind(t, mainOf(1, "Record 1, Dup, Load 0, Put 0, Store 0, Jump 0"), 9, 20).Save()
	draws := []int{5, -2, 8}
	saved := make([]string, 16)
	var wait sync.WaitGroup
	for i := range saved {
		wait.Go(func() {
			for range 20 {
				m := woken(t, image, 9+i, draws...)
				wantRun(t, m, 30, 30)
				saved[i] += string(m.Save())
			}
		})
	}
	wait.Wait()
	for _, s := range saved {
		if s != strings.Repeat(s[:len(s)/20], 20) || s != saved[0] {
			t.Errorf("P2: machines of the same image are saved as % x and % x", saved[0], s)
		}
	}
}
