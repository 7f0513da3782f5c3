package slumber

import (
	"math"

	"slumber/api"
)

// version is what images of one version have of their own: how a number and an int are read, and what there is besides: what was put out, and which operations and kinds of objects.
type version struct {
	number       func(r *reader) uint64
	signed       func(r *reader) int
	output       func(r *reader) []int
	hasOperation func(op int) bool
	hasKind      func(kind int) bool
}

const (
	oldVersion = 1
	newVersion = 2
)

// versionOf tells the version of that number, and whether there is one.
func versionOf(n byte) (version, bool) {
	switch n {
	case oldVersion:
		return version{number: wideNumber, signed: wideInt, output: noOutput, hasOperation: notOfWeak, hasKind: notWeak}, true
	case newVersion:
		return version{number: shortNumber, signed: shortInt, output: countedOutput, hasOperation: every, hasKind: every}, true
	}
	return version{}, false
}

// four reads four bytes, the lowest first.
func four(r *reader) uint32 {
	var n uint32
	for shift := 0; shift < 32; shift += 8 {
		n |= uint32(*r.next()) << shift
	}
	return n
}

func wideNumber(r *reader) uint64 {
	n := four(r)
	r.must(n <= math.MaxInt32)
	return uint64(n)
}

func wideInt(r *reader) int { return int(int32(four(r))) }

func noOutput(*reader) []int { return nil }

func notOfWeak(op int) bool { return op != api.Weak && op != api.Strong }

func notWeak(kind int) bool { return kind != api.WeakObject }

const (
	bitsAByte   = 7    // of a number
	moreFollows = 0x80 // the bit that each byte of a number has but the last
)

// shortNumber: a last byte of 0 would say nothing, so it stands alone or not at all; and no bit may go lost at the top.
func shortNumber(r *reader) uint64 {
	var n uint64
	for shift := 0; ; shift += bitsAByte {
		b := *r.next()
		part := uint64(b &^ moreFollows)
		r.must(part<<shift>>shift == part)
		n |= part << shift
		if b < moreFollows {
			r.must(b != 0 || shift == 0)
			return n
		}
	}
}

func shortInt(r *reader) int {
	n := shortNumber(r)
	if n%2 == 1 {
		return -1 - int(n/2)
	}
	return int(n / 2)
}

func countedOutput(r *reader) []int { return listOf(r, r.upTo(api.MaxOutput), r.signed) }

func every(int) bool { return true }
