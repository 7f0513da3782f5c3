package slumber_test

import (
	"bytes"
	"encoding/hex"
	"fmt"
	"math"
	"slices"
	"strings"
	"testing"

	"slumber/api"
	"slumber/slumber"
)

// wantForm: whether it is an image, of whatever version; the glass must judge likewise.
func wantForm(t *testing.T, name string, image []byte, ok bool) {
	t.Helper()
	want := api.ErrForm
	if ok {
		want = api.OK
	}
	m, e := slumber.Wake(image, api.MaxCapacity, nil)
	if e != want || (m != nil) != ok {
		t.Errorf("P15, P16: %s: Wake(% x) = %v, %d, want %d", name, image, m != nil, e, want)
	}
	if _, judged := judged(image); judged != ok {
		t.Errorf("%s: the glass judges % x to be %v", name, image, judged)
	}
	if m != nil && image[3] == 2 && !bytes.Equal(m.Save(), image) {
		t.Errorf("P15: %s: % x is saved as % x", name, image, m.Save())
	}
}

// samples are images that have, all in all, something in every part.
func samples() [][]byte {
	two := "02 00 00 04 01 00 0e 02 05 00 1b 00 01 01 02 01 00 0f 00 " // Nil, Call 1, Pop, Halt; Nil, Return
	return [][]byte{
		sealed(seven + "00 00 01 00 00 00"),
		sealed(seven + "01 03 0e 80 01 7f 00 00"),
		sealed(two + "00 01 0e 02 00 01 01 01 01 81 01 00 00"),
		sealed(seven + "07 00 01 00 01 02 00 04 01 03 02 01 01 05 02 02 02 02 02 00 02 03 01 00 03 02 01"),
		sealed("01 00 01 01 1b 00 00 00 01 00 00 02 00 02 01 01 02 01 03 02 00"),
	}
}

// TestFormIsLaidOutToTheLastByte: the beginning of an image is none, nor is one with more behind it.
func TestFormIsLaidOutToTheLastByte(t *testing.T) {
	for _, l := range samples() {
		wantForm(t, "as it is", l, true)
		inner := l[:len(l)-4]
		for n := 4; n < len(inner); n++ {
			wantForm(t, "a beginning", seal(inner[:n]), false)
		}
		for b := range 256 {
			wantForm(t, "a byte more", seal(append(slices.Clip(inner), byte(b))), false)
		}
		wantForm(t, "the sum once more", seal(l), false)
		wantForm(t, "the same once more", seal(append(slices.Clip(inner), inner[4:]...)), false)
	}
}

// TestFormHasAsFewBytesAsMayBe: wherever a byte stands that ends a number, it may not be made longer.
func TestFormHasAsFewBytesAsMayBe(t *testing.T) {
	for _, l := range samples() {
		inner := l[:len(l)-4]
		for at := 4; at < len(inner); at++ {
			for _, more := range [][]byte{{0}, {0x80, 0}, bytes.Repeat([]byte{0x80}, 9), append(bytes.Repeat([]byte{0x80}, 9), 0)} {
				longer := slices.Insert(changed(inner, at, inner[at]|0x80), at+1, more...)
				wantForm(t, fmt.Sprintf("longer at %d", at), seal(longer), false)
			}
		}
	}
}

// TestFormFitsIntoSixtyFourBits: an int may be as great as that, a number of anything may not.
func TestFormFitsIntoSixtyFourBits(t *testing.T) {
	nine := strings.Repeat("ff", 9)
	for text, ok := range map[string]bool{
		nine + "01":                     true,
		strings.Repeat("80", 9) + "01":  true,
		nine + "00":                     false,
		nine + "02":                     false,
		nine + "03":                     false,
		nine + "7f":                     false,
		nine + "81 00":                  false,
		nine + "81 01":                  false,
		strings.Repeat("80", 9) + "02":  false,
		strings.Repeat("80", 10) + "01": false,
		strings.Repeat("80", 9) + "40":  false,
		strings.Repeat("ff", 12):        false,
		strings.Repeat("ff", 30) + "01": false,
		strings.Repeat("80", 60) + "01": false,
	} {
		wantForm(t, "A "+text, sealed("01 00 00 02 00 "+text+"1b 00 00 00 01 00 00 00"), ok)
		wantForm(t, "put out "+text, sealed(seven+"01 01 "+text+" 00 00"), ok)
		wantForm(t, "on the stack "+text, sealed(seven+"00 00 01 00 01 01"+text+" 00"), ok)
		wantForm(t, "in a field "+text, sealed(seven+"00 00 01 00 01 02 00 01 01 01 01"+text), ok)
		for _, form := range []string{
			"* 00 00 03 00 0e 1a 00 1b 00 00 00 01 00 00 00",
			"01 * 00 03 00 0e 1a 00 1b 00 00 00 01 00 00 00",
			"01 00 * 03 00 0e 1a 00 1b 00 00 00 01 00 00 00",
			"01 00 00 * 00 0e 1a 00 1b 00 00 00 01 00 00 00",
			"01 00 00 03 * 0e 1a 00 1b 00 00 00 01 00 00 00",
			seven + "* 00 01 00 00 00",
			seven + "* 00 00 00",
			seven + "00 * 01 00 00 00",
			seven + "00 00 * 00 00 00",
			seven + "00 00 01 * 00 00",
			seven + "00 00 01 00 * 00",
			seven + "00 00 01 00 00 *",
			seven + "00 00 01 00 01 02 * 01 01 00",
			seven + "00 00 01 00 01 02 00 * 01 00",
			seven + "00 00 01 00 01 02 00 01 * 00",
			seven + "00 00 01 00 01 02 00 01 01 *",
			seven + "00 00 01 00 01 02 00 01 02 *",
			seven + "00 00 01 00 01 02 00 01 01 01 02 *",
		} {
			wantForm(t, form+" with "+text, sealed(strings.ReplaceAll(form, "*", text)), false)
		}
	}
}

// TestFormOfPrograms: Check takes it.
func TestFormOfPrograms(t *testing.T) {
	rest := "00 00 01 00 00 00"
	halt := "00 00 01 1b 00"
	for _, c := range []struct {
		name, text string
		ok         bool
	}{
		{"no function", "00", false},
		{"one", "01" + halt, true},
		{"eight", "08" + strings.Repeat(halt, 8), true},
		{"nine", "09" + strings.Repeat(halt, 9), false},
		{"more are told than there are", "02" + halt, false},
		{"fewer", "01" + halt + halt, false},
		{"no instruction", "01 00 00 00", false},
		{"sixty", "01 00 00 3c" + strings.Repeat("1b 00", 60), true},
		{"sixty-one", "01 00 00 3d" + strings.Repeat("1b 00", 61), false},
		{"sixty of another function", "02" + halt + "00 00 3c" + strings.Repeat("1b 00", 60), true},
		{"sixty-one of another function", "02" + halt + "00 00 3d" + strings.Repeat("1b 00", 61), false},
		{"parameters of another function", "02" + halt + "08 08 01 1b 00", true},
		{"more than locals", "02" + halt + "08 07 01 1b 00", false},
		{"nine locals", "02" + halt + "00 09 01 1b 00", false},
		{"no operation", "01 00 00 02 1b 00 1c 00", false},
		{"an A that may not be", "01 00 00 02 1b 00 1b 02", false},
		{"an A that may not be, below 0", "01 00 00 02 1b 00 0c 01", false},
		{"a local that there is not", "01 00 00 02 1b 00 02 00", false},
		{"an instruction that is not come to", "01 00 00 02 1b 00 05 00", true},
		{"a function that does not fit together", "01 00 00 02 05 00 1b 00", false},
		{"another that does not", "02" + halt + "00 00 01 05 00", false},
		{"Weak and Strong", "01 00 00 03 1b 00 12 00 18 00", true},
	} {
		wantForm(t, c.name, sealed(c.text+rest), c.ok)
	}
	for locals := range 10 {
		text := fmt.Sprintf("01 00 %02x 01 1b 00 00 00 01 00 00 %s 00", locals, strings.Repeat("00", locals))
		wantForm(t, "locals", sealed(text), locals <= api.MaxLocals)
		text = fmt.Sprintf("01 %02x 08 01 1b 00 00 00 01 00 00 %s 00", locals, strings.Repeat("00", 8))
		wantForm(t, "parameters of the first function", sealed(text), locals == 0)
	}
}

// TestFormOfStates: those that there are; Halted is the one without frames.
func TestFormOfStates(t *testing.T) {
	for state := range 128 {
		there := state <= api.OutFull
		wantForm(t, "with a frame", sealed(fmt.Sprintf("%s %02x 00 01 00 00 00", seven, state)), there && state != api.Halted)
		wantForm(t, "without", sealed(fmt.Sprintf("%s %02x 00 00 00", seven, state)), state == api.Halted)
	}
	wantForm(t, "halted, with an object", sealed(seven+"01 00 00 01 01 00"), false)
}

func TestFormOfOutput(t *testing.T) {
	for n := range 50 {
		text := fmt.Sprintf("%s 00 %02x %s 01 00 00 00", seven, n, strings.Repeat("0e", n))
		wantForm(t, "put out", sealed(text), n <= api.MaxOutput)
	}
	for _, n := range edges() {
		m := newModel(mainOf(0, "Halt"), 1)
		m.output = []int{n, -n, n}
		wantForm(t, "put out", m.image(false), true)
		wantOutput(t, woken(t, m.image(false), 1), n, -n, n)
	}
}

// TestFormOfFrames: the functions, the places, and how many values there are.
func TestFormOfFrames(t *testing.T) {
	p := program(function(0, 1, "Int 1, Nil, Nil, Call 1, Call 2, Call 1, Halt, Pop"), function(2, 2, "Load 0, JumpNot 3, Halt, Call 2, Return"), function(0, 0, "Nil, Jump 4, Halt, Halt, Return"))
	for _, c := range []struct {
		name, text string
		ok         bool
	}{
		{"at the beginning", "01 0000 00", true},
		{"a value too many", "01 0000 0000", false},
		{"a value too few", "01 0000", false},
		{"at the second", "01 0001 00 00", true},
		{"with ints", "01 0001 0102 0104", true},
		{"at the Call, which has not been made", "01 0003 00 0000 00", true},
		{"behind it", "01 0004 00 0000", true},
		{"at the last that is come to", "01 0006 00 0000", true},
		{"at one that is not come to", "01 0007 00 0000", false},
		{"at one that is not come to, with an empty stack", "01 0007 00", false},
		{"behind the last", "01 0008 00", false},
		{"of another function", "01 0100 00 00", false},
		{"of a function that there is not", "01 0300 00", false},
		{"called", "02 0003 00 00 0100 00 00", true},
		{"called, with what was handed over on the stack still", "02 0003 00 0000 00 0100 00 00", false},
		{"called, at its end", "02 0003 00 00 0102 00 00", true},
		{"called, at a Call that has not been made", "02 0003 00 00 0103 00 00", true},
		{"called by the second Call", "02 0004 00 0000 0200", true},
		{"called by the third Call", "02 0005 00 00 0100 00 00", true},
		{"called, with a value too many below", "02 0005 00 0000 0100 00 00", false},
		{"called, with a value too few below", "02 0005 00 0100 00 00", false},
		{"another function than the Call says", "02 0003 00 00 0200", false},
		{"another function than the Call says, the first", "02 0003 00 00 0000 00", false},
		{"a function that there is not", "02 0003 00 00 0300", false},
		{"the one below is at no Call", "02 0002 00 00 00 0100 00 00", false},
		{"the one below is at an Int 1", "02 0000 00 0100 00 00", false},
		{"the one below is at a place that is not come to", "02 0007 00 0000 0100 00 00", false},
		{"three", "03 0003 00 00 0103 00 00 0200", true},
		{"three, and the last has a value", "03 0003 00 00 0103 00 00 0201 0102", true},
		{"three, and the last is at the end", "03 0003 00 00 0103 00 00 0204 0102", true},
		{"three, and the last is not come to", "03 0003 00 00 0103 00 00 0202 0102", false},
		{"three, and the last is not come to, without a value", "03 0003 00 00 0103 00 00 0202", false},
		{"three, by the other Call", "03 0003 00 00 0103 00 00 0100 00 00", false},
		{"three, the first is of another function", "03 0103 00 00 0103 00 00 0200", false},
		{"two of the first function", "02 0000 00 0000 00", false},
		{"fewer than are told", "03 0003 00 00 0103 00 00", false},
		{"more than are told", "02 0003 00 00 0103 00 00 0200", false},
	} {
		wantForm(t, c.name, sealed(partTwo(p)+"00 00"+c.text+"00"), c.ok)
	}
	for n := range 16 {
		text := fmt.Sprintf("01 000002 0e00 0f00 00 00 %02x %s 00", n, strings.Repeat("0000", n))
		wantForm(t, "deep", sealed(text), n >= 1 && n <= api.MaxFrames)
	}
}

// TestFormOfObjects: one value on the stack, and the objects.
func TestFormOfObjects(t *testing.T) {
	for _, c := range []struct {
		name, text string
		ok         bool
	}{
		{"no object", "00 00", true},
		{"a reference to none", "0200 00", false},
		{"an empty record", "0200 01 0100", true},
		{"an empty array", "0200 01 0200", true},
		{"a weak object to nil", "0200 01 0300", true},
		{"an object of no kind", "0200 01 0000", false},
		{"an object of no kind at all", "0200 01 00", false},
		{"an object of a fourth kind", "0200 01 0400", false},
		{"an object that nobody meets", "00 01 0100", false},
		{"a value of no kind", "03 00", false},
		{"a value of no kind, by the highest bit", "80 00", false},
		{"a value of no kind, in a field", "0200 01 0101 03", false},
		{"a weak object with an int", "0200 01 03 0100", false},
		{"a weak object with a size", "0200 01 03 01 00", false},
		{"a weak object to itself", "0200 01 03 0200", true},
		{"a weak object to none", "0200 01 03 0201", false},
		{"a weak object to what nobody meets", "0200 02 03 0201 0100", false},
		{"a weak object to what is met", "0200 03 0102 0201 0202 03 0202 0100", true},
		{"a weak object to what was met", "0200 03 0102 0201 0202 0100 03 0201", true},
		{"a weak object to one number more", "0200 03 0102 0201 0202 03 0203 0100", false},
		{"the first has not the number 0", "0201 02 0100 0100", false},
		{"the first has not the number 0, but the other is met", "0201 02 0100 0101 0200", false},
		{"the second is met by the first", "0200 02 0101 0201 0100", true},
		{"by none", "0200 02 0101 0200 0100", false},
		{"by itself alone", "0200 02 0100 0101 0201", false},
		{"fields in their order", "0200 03 0102 0201 0202 0100 0100", true},
		{"fields in another order", "0200 03 0102 0202 0201 0100 0100", false},
		{"a number is left out", "0200 03 0102 0202 00 0100 0101 0201", false},
		{"one is met twice", "0200 03 0103 0201 0201 0202 0100 0100", true},
		{"object by object", "0200 04 0102 0201 0202 0101 0203 0100 0100", true},
		{"down at once", "0200 04 0102 0201 0203 0101 0202 0100 0100", false},
		{"a ring", "0200 03 0101 0201 0101 0202 0101 0200", true},
		{"a row of arrays", "0200 03 0201 0201 0201 0202 0200", true},
		{"a reference beyond all", "0200 01 0101 0201", false},
		{"a reference far beyond all", "0200 01 0101 02a81f", false},
		{"more objects than are told", "0200 01 0100 0100", false},
		{"fewer", "0200 02 0101 0201", false},
		{"fewer fields than are told", "0200 01 0102 00", false},
		{"more", "0200 01 0101 0000", false},
	} {
		wantForm(t, c.name, sealed(seven+"00 00 01 00 01"+c.text), c.ok)
	}
	for n := range 16 {
		nils := strings.Repeat("00", n)
		wantForm(t, "fields", sealed(fmt.Sprintf("%s 00 00 01 00 01 0200 01 01 %02x %s", seven, n, nils)), n <= api.MaxRecord)
		wantForm(t, "places", sealed(fmt.Sprintf("%s 00 00 01 00 01 0200 01 02 %02x %s", seven, n, nils)), n <= api.MaxArray)
	}
	for n := 1; n < 50; n++ {
		row := ""
		for i := 1; i < n; i++ {
			row += fmt.Sprintf("0101 02 %02x", i)
		}
		wantForm(t, "many objects", sealed(fmt.Sprintf("%s 00 00 01 00 01 0200 %02x %s 0100", seven, n, row)), n <= api.MaxCapacity)
	}
}

// TestFormOfNumbersAcrossFrames: the frames are gone through from the first on, in each the locals ahead of the stack.
func TestFormOfNumbersAcrossFrames(t *testing.T) {
	p := partTwo(program(function(0, 1, "Nil, Nil, Call 1, Halt"), function(1, 1, "Load 0, Halt")))
	records := "04 0100 0100 0100 0100"
	orders := [][]int{{0, 1, 2, 3}}
	for i := range 4 {
		for k := range i {
			l := []int{0, 1, 2, 3}
			l[i], l[k] = l[k], l[i]
			orders = append(orders, l)
		}
	}
	for _, l := range orders {
		text := fmt.Sprintf("02 0002 02%02x 02%02x 0101 02%02x 02%02x", l[0], l[1], l[2], l[3])
		wantForm(t, fmt.Sprint(l), sealed(p+"00 00"+text+records), slices.IsSorted(l))
	}
}

// TestFormOfGreatCounts: P1. Counts that no bytes stand behind end soon, with no room made for them.
func TestFormOfGreatCounts(t *testing.T) {
	for _, n := range []uint64{1 << 20, math.MaxInt32, math.MaxUint32, math.MaxInt, math.MaxInt + 1, math.MaxUint64} {
		var s scribe
		s.number(int(n))
		great := hex.EncodeToString(s.bytes)
		for _, text := range []string{great, "01 00 00 " + great, seven + "00 " + great, seven + "00 00 " + great, seven + "00 00 01 00 00 " + great, seven + "00 00 01 00 01 0200 01 01" + great, seven + "00 00 01 00 01 0200 01 02" + great} {
			long := append(raw(head+text), make([]byte, 19000)...)
			wantAsleep(t, "a great count", seal(long), 40, 0, api.ErrForm)
			wantAsleep(t, "a great count", sealed(text), 40, 0, api.ErrForm)
		}
	}
}
