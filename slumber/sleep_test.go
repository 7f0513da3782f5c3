package slumber_test

import (
	"bytes"
	"math/rand/v2"
	"slices"
	"testing"

	"slumber/api"
	"slumber/slumber"
)

func stepBoth(t *testing.T, like *model, m *slumber.Machine) {
	t.Helper()
	if like.state == api.Running {
		like.step()
		wantRun(t, m, 1, 1)
	}
}

// TestSleepAgainstTheModel: between the steps of programs by chance the machine is put to sleep and woken elsewhere, in a heap of another size, with other draws; and so is the model, by the images of the scribe.
func TestSleepAgainstTheModel(t *testing.T) {
	states := map[int]int{}
	refused, weak := 0, 0
	for seed := range uint64(1500) {
		a := &author{Rand: rand.New(rand.NewPCG(seed, 12))}
		p, capacity := a.program(), 1+a.IntN(8)
		like, m := newModel(p, capacity), begun(t, p, capacity)
		for range a.IntN(250) * a.IntN(2) {
			stepBoth(t, like, m)
		}
		for step := range 60 {
			image := m.Save()
			if want := like.image(false); !bytes.Equal(image, want) {
				t.Fatalf("P13: seed %d, step %d: Save = % x, want % x", seed, step, image, want)
			}
			if capacity, draws := 1+a.IntN(10), a.draws(); len(like.met()) > capacity {
				wantAsleep(t, "no room", image, capacity, len(draws), api.ErrRoom)
				refused++
			} else {
				m = woken(t, image, capacity, draws...)
				like.sleep()
				like.settle(capacity, draws)
				states[like.state]++
			}
			if a, b := toldMachine(m), like.told(); a != b {
				t.Fatalf("P14: seed %d, step %d: the machine is %s, want %s", seed, step, a, b)
			}
			if slices.ContainsFunc(like.met(), func(o *modelObject) bool { return o.kind == api.WeakObject && o.values[0] != nil }) {
				weak++
			}
			if like.state != api.Running {
				break
			}
			for range a.IntN(5) {
				stepBoth(t, like, m)
			}
		}
	}
	t.Logf("woken as %v, %d times there was no room, %d times a weak object referred to something", states, refused, weak)
	for state := api.Running; state <= api.OutFull; state++ {
		if states[state] == 0 {
			t.Errorf("no machine by chance slept in state %d: it has not been tested", state)
		}
	}
	if refused == 0 || weak == 0 {
		t.Error("there was always room, or never a weak object: it has not been tested")
	}
}

// TestNobodySeesSleep: P11. A machine that sleeps between all its steps makes the same ones as another that never does.
func TestNobodySeesSleep(t *testing.T) {
	moved := 0
	for seed := range uint64(200) {
		a := &author{Rand: rand.New(rand.NewPCG(seed, 13))}
		p, capacity := a.program(), 1+a.IntN(8)
		still, other := begun(t, p, capacity), begun(t, p, capacity)
		for steps := range 150 {
			other = woken(t, other.Save(), capacity, a.draws()...)
			if !bytes.Equal(still.Save(), other.Save()) || unseen(still) != unseen(other) {
				t.Fatalf("P11: seed %d, behind %d steps: with sleep the machine is %s, without %s", seed, steps, unseen(other), unseen(still))
			}
			if toldFrames(still.Frames()) != toldFrames(other.Frames()) {
				moved++
			}
			n, _ := still.Run(1)
			wantRun(t, other, 1, n)
		}
	}
	if moved == 0 {
		t.Error("the objects never lay elsewhere: it has not been tested")
	}
}

// simple is a program that version 1 can tell of: what is weak, and what is put out, gives way to other operations of the same heights, and great ints to small ones.
func simple(p api.Program) api.Program {
	for _, f := range p.Funcs {
		for pc, i := range f.Code {
			switch i.Op {
			case api.Weak, api.Strong:
				f.Code[pc].Op = api.IsRef
			case api.Print:
				f.Code[pc].Op = api.Pop
			case api.Int:
				f.Code[pc].A = i.A % 100
			}
		}
	}
	return p
}

// chosen is an image of a program by chance, behind some of its steps.
func chosen(a *author, isOld bool) []byte {
	p := a.program()
	if isOld {
		p = simple(p)
	}
	m := newModel(p, 1+a.IntN(12))
	for range a.IntN(60) {
		if m.state == api.Running {
			m.step()
		}
	}
	return m.image(isOld)
}

// wantJudged: Wake takes what the glass takes, and makes of it what the glass makes.
func wantJudged(t *testing.T, image []byte, draws []int) bool {
	t.Helper()
	like, ok := judged(image)
	if !ok {
		wantAsleep(t, "changed", image, api.MaxCapacity, 0, api.ErrForm)
		return false
	}
	like.settle(api.MaxCapacity, draws)
	m := woken(t, image, api.MaxCapacity, draws...)
	if a, b := toldMachine(m), like.told(); a != b {
		t.Fatalf("P14: woken of % x the machine is %s, want %s", image, a, b)
	}
	if l := m.Save(); !bytes.Equal(l, like.image(false)) || image[3] == 2 && !bytes.Equal(l, image) {
		t.Fatalf("P15: % x is saved as % x", image, l)
	}
	for range 30 {
		stepBoth(t, like, m)
	}
	if a, b := toldMachine(m), like.told(); a != b {
		t.Fatalf("P15: woken of % x the machine comes to be %s, want %s", image, a, b)
	}
	return true
}

// change makes an image another one somewhere, by chance, with its sum: mostly behind the program, where more may be changed.
func change(a *author, image []byte) []byte {
	l := bytes.Clone(image[:len(image)-4])
	for range 1 + a.IntN(2) {
		at := 4 + a.IntN(len(l)-4)
		if a.IntN(3) > 0 {
			at = max(4, len(l)-1-a.IntN(min(len(l)-4, 60)))
		}
		few := []byte{0, 1, 2, 3, 4, 0x7f, 0x80, 0xff, byte(a.IntN(256))}
		b := few[a.IntN(len(few))]
		switch a.IntN(6) {
		case 0:
			l = slices.Insert(l, at, b)
		case 1:
			l = slices.Delete(l, at, at+1)
		case 2:
			to := 4 + a.IntN(len(l)-4)
			l[at], l[to] = l[to], l[at]
		case 3:
			l[at]++
		case 4:
			l[at]--
		default:
			l[at] = b
		}
		if len(l) < 6 {
			break
		}
	}
	return seal(l)
}

// TestChangedImages: of both versions.
func TestChangedImages(t *testing.T) {
	for _, isOld := range []bool{false, true} {
		taken, refused := 0, 0
		for seed := range uint64(400) {
			a := &author{Rand: rand.New(rand.NewPCG(seed, 14))}
			image := chosen(a, isOld)
			if !wantJudged(t, image, a.draws()) {
				t.Fatalf("seed %d: the glass refuses % x", seed, image)
			}
			for range 30 {
				if wantJudged(t, change(a, image), a.draws()) {
					taken++
				} else {
					refused++
				}
			}
		}
		t.Logf("old %v: %d taken, %d refused", isOld, taken, refused)
		if taken < 100 || refused < 100 {
			t.Error("too few have been taken or refused: it has not been tested")
		}
	}
}

// TestEveryByteOfAnImage: each byte as each other one, left out, and doubled.
func TestEveryByteOfAnImage(t *testing.T) {
	l := append(samples(), old(oldSeven+"0 1 0 1 x02 0 2 2 2 x00 x02 1 1 1 x01 -1"))
	for _, image := range l {
		inner := image[:len(image)-4]
		for at := 4; at < len(inner); at++ {
			for b := range 256 {
				wantJudged(t, seal(changed(inner, at, byte(b))), nil)
			}
			wantJudged(t, seal(slices.Delete(bytes.Clone(inner), at, at+1)), nil)
			wantJudged(t, seal(slices.Insert(bytes.Clone(inner), at, inner[at])), nil)
		}
	}
}

// TestAnyBytes: P1. Whatever comes, Wake ends, and gives a machine that can go on or an error.
func TestAnyBytes(t *testing.T) {
	chance := rand.New(rand.NewPCG(1, 15))
	for range 20000 {
		l := make([]byte, chance.IntN(60))
		for i := range l {
			l[i] = byte(chance.Uint32())
			if chance.IntN(2) == 0 {
				l[i] %= 4
			}
		}
		if chance.IntN(10) > 0 {
			l = seal(append([]byte{'S', 'L', 'M', byte(1 + chance.IntN(2))}, l...))
		}
		m, e := slumber.Wake(l, chance.IntN(42), make([]int, chance.IntN(3)))
		if (m == nil) == (e == api.OK) {
			t.Fatalf("P1: Wake(% x) = %v, %d", l, m, e)
		}
		if m != nil {
			m.Run(100)
			m.Save()
		}
	}
}
