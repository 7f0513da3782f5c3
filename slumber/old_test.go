package slumber_test

import (
	"bytes"
	"encoding/binary"
	"fmt"
	"math"
	"slices"
	"strconv"
	"strings"
	"testing"

	"slumber/api"
)

// wide are words, each a number or an int in four bytes; one with an x is bytes as they are.
func wide(text string) []byte {
	var l []byte
	for _, w := range strings.Fields(text) {
		if strings.HasPrefix(w, "x") {
			l = append(l, raw(w[1:])...)
			continue
		}
		var n int64
		if _, err := fmt.Sscan(w, &n); err != nil {
			panic(err)
		}
		l = binary.LittleEndian.AppendUint32(l, uint32(n))
	}
	return l
}

// old is an image of version 1.
func old(text string) []byte { return seal(append([]byte("SLM\x01"), wide(text)...)) }

const oldSeven = "1 0 0 3 0 7 26 0 27 0 " // Int 7, Print, Halt

// TestOldImagesAreWoken: as the machine that is saved so.
func TestOldImagesAreWoken(t *testing.T) {
	for _, c := range []struct{ name, text, saved string }{
		{"at the beginning", oldSeven + "0 1 0 0 0", seven + "00 00 01 00 00 00"},
		{"with a value", oldSeven + "0 1 0 1 x01 -3 0", seven + "00 00 01 00 01 01 05 00"},
		{"halted", oldSeven + "1 0 0", seven + "01 00 00 00"},
		{"trapped", oldSeven + "7 1 0 1 x00 0", seven + "07 00 01 00 01 00 00"},
		{"a record", oldSeven + "0 1 0 1 x02 0 1 1 2 x01 300 x02 0", seven + "00 00 01 00 01 02 00 01 01 02 01 d8 04 02 00"},
		{"an array, a record in it", oldSeven + "0 1 0 1 x02 0 2 2 2 x00 x02 1 1 0", seven + "00 00 01 00 01 02 00 02 02 02 00 02 01 01 00"},
		{"frames", "2 0 0 4 1 0 14 1 5 0 27 0 1 1 2 1 0 15 0 0 2 0 1 1 0 x01 9 0", "02 00 00 04 01 00 0e 02 05 00 1b 00 01 01 02 01 00 0f 00 00 00 02 00 01 01 00 01 12 00"},
		{"the least A", "1 0 0 2 0 -2147483648 27 0 0 1 0 0 0", "01 00 00 02 00 ff ff ff ff 0f 1b 00 00 00 01 00 00 00"},
		{"the greatest A", "1 0 0 2 0 2147483647 27 0 0 1 0 0 0", "01 00 00 02 00 fe ff ff ff 0f 1b 00 00 00 01 00 00 00"},
	} {
		wantForm(t, c.name, old(c.text), true)
		m := woken(t, old(c.text), 3, 2, 1, 1, 7)
		wantImage(t, m, c.saved)
		if a, b := toldMachine(m), toldMachine(woken(t, sealed(c.saved), 3, 2, 1, 1, 7)); a != b {
			t.Errorf("P16: woken of version 1 it is %s, of version 2 %s", a, b)
		}
		if t.Failed() {
			t.Fatalf("P16: %s", c.name)
		}
	}
	m := woken(t, old(oldSeven+"0 1 0 1 x01 -3 0"), 1)
	wantEnd(t, m, 2, api.Halted, -3)
	m = woken(t, old(oldSeven+"0 1 0 1 x02 0 2 2 2 x00 x02 1 1 0"), 4, 7, -1)
	wantLaid(t, m, "r[] - - a[nil #0]", 0)
}

// TestOldInts: four bytes, and the sign in the highest bit.
func TestOldInts(t *testing.T) {
	for _, n := range []int{0, 1, -1, 127, 128, 255, 256, -256, 65535, 65536, -65537, 1 << 24, -1 << 24, math.MaxInt32, math.MinInt32, math.MinInt32 + 1} {
		p := alone(in(api.Int, n), plain(api.Halt))
		like := newModel(p, 1)
		wantForm(t, "an A", like.image(true), true)
		m := woken(t, like.image(true), 1)
		wantRun(t, m, 1, 1)
		like.step()
		wantFrames(t, m, fmt.Sprintf("0@1[|%d]", n))
		wantForm(t, "a value", like.image(true), true)
		wantFrames(t, woken(t, like.image(true), 1), fmt.Sprintf("0@1[|%d]", n))
	}
}

// TestOldFormIsRefused: what version 2 has, or no version.
func TestOldFormIsRefused(t *testing.T) {
	for _, c := range []struct{ name, text string }{
		{"nothing", ""},
		{"what was put out", oldSeven + "0 0 1 0 0 0"},
		{"a number put out", oldSeven + "0 1 14 1 0 0 0"},
		{"too short", oldSeven + "0 1 0 0"},
		{"a byte too few", oldSeven + "0 1 0 0 x000000"},
		{"a byte more", oldSeven + "0 1 0 0 0 x00"},
		{"four bytes more", oldSeven + "0 1 0 0 0 0"},
		{"the numbers of version 2", "x" + strings.ReplaceAll(seven, " ", "") + "000001000000"},
		{"without what was put out", "x" + strings.ReplaceAll(seven, " ", "") + "0001000000"},
		{"a Weak", "1 0 0 3 1 0 18 0 27 0 0 1 0 0 0"},
		{"a Weak that is not come to", "1 0 0 2 27 0 18 0 0 1 0 0 0"},
		{"a Strong", "1 0 0 3 1 0 24 0 27 0 0 1 0 0 0"},
		{"a Strong of another function", "2 0 0 1 27 0 0 0 2 27 0 24 0 0 1 0 0 0"},
		{"a weak object", oldSeven + "0 1 0 1 x02 0 1 3 x00"},
		{"a weak object to itself", oldSeven + "0 1 0 1 x02 0 1 3 x02 0"},
		{"an object of no kind", oldSeven + "0 1 0 1 x02 0 1 0 0"},
		{"a value whose kind has four bytes", oldSeven + "0 1 0 1 1 -3 0"},
		{"halted, with a frame", oldSeven + "1 1 0 0 0"},
		{"no frame", oldSeven + "0 0 0"},
		{"a state that there is not", oldSeven + "8 1 0 0 0"},
		{"an object that nobody meets", oldSeven + "0 1 0 0 1 1 0"},
		{"another order of objects", oldSeven + "0 1 0 1 x02 0 3 1 2 x02 2 x02 1 1 0 1 0"},
		{"a program that Check refuses", "1 0 0 1 5 0 0 1 0 0 0"},
	} {
		wantForm(t, c.name, old(c.text), false)
	}
	// Each number in its turn: with its highest bit set, and as great as may be.
	numbers := strings.Fields(oldSeven + "0 1 0 1 x02 0 1 1 1 x00")
	wantForm(t, "as it is", old(strings.Join(numbers, " ")), true)
	for at, w := range numbers {
		if strings.HasPrefix(w, "x") || at == 5 {
			continue
		}
		n, err := strconv.Atoi(w)
		if err != nil {
			panic(err)
		}
		for _, n := range []int{n + 1<<31, math.MaxInt32, math.MaxUint32} {
			other := slices.Clone(numbers)
			other[at] = strconv.Itoa(n)
			wantForm(t, fmt.Sprint(other), old(strings.Join(other, " ")), false)
		}
	}
}

// TestOldFormIsLaidOutToTheLastByte: the beginning of an image is none.
func TestOldFormIsLaidOutToTheLastByte(t *testing.T) {
	l := old(oldSeven + "0 1 0 1 x02 0 2 2 2 x00 x02 1 1 0")
	for n := 4; n < len(l)-4; n++ {
		wantForm(t, "a beginning", seal(bytes.Clone(l[:n])), false)
	}
	for b := range 256 {
		wantForm(t, "a byte more", seal(append(bytes.Clone(l[:len(l)-4]), byte(b))), false)
	}
}

// TestOldLimits: as many of everything as version 2 takes.
func TestOldLimits(t *testing.T) {
	for n := range 16 {
		wantForm(t, "fields", old(fmt.Sprintf("%s 0 1 0 1 x02 0 1 1 %d x%s", oldSeven, n, strings.Repeat("00", n))), n <= api.MaxRecord)
		wantForm(t, "places", old(fmt.Sprintf("%s 0 1 0 1 x02 0 1 2 %d x%s", oldSeven, n, strings.Repeat("00", n))), n <= api.MaxArray)
		wantForm(t, "frames", old(fmt.Sprintf("1 0 0 2 14 0 15 0 0 %d %s 0", n, strings.Repeat("0 0 ", n))), n >= 1 && n <= api.MaxFrames)
	}
	for n := 1; n < 50; n++ {
		row := ""
		for i := 1; i < n; i++ {
			row += fmt.Sprintf("1 1 x02 %d ", i)
		}
		image := old(fmt.Sprintf("%s 0 1 0 1 x02 0 %d %s 1 0", oldSeven, n, row))
		wantForm(t, "many objects", image, n <= api.MaxCapacity)
		if n > 1 && n <= api.MaxCapacity {
			wantAsleep(t, "no room", image, n-1, 201, api.ErrRoom)
		}
	}
}
