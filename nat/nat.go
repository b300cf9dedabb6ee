// Package nat is layer 1: naturals of any size, as rows of limbs, the least first.
package nat

import (
	"cmp"
	"math/bits"

	"overtone/api"
)

const (
	top     = 1<<api.Limb - 1 // the greatest limb
	intBits = 62              // what Int tells has at most so many
	intRow  = 3               // so many limbs hold every int
)

// Right tells whether a is a natural.
func Right(a []int) bool {
	if len(a) == 0 {
		return true
	}
	for _, limb := range a {
		if limb < 0 || limb > top {
			return false
		}
	}
	return len(a) <= api.MaxLimbs && a[len(a)-1] != 0
}

// Of is the natural n, or 0 if n is below 0.
func Of(n int) []int {
	rest := carry(max(n, 0))
	return sums(make([]int, intRow), func(int) int { return 0 }, rest.limb)
}

// Int is the value of a, and true, if it is below 2^62.
func Int(a []int) (int, bool) {
	if Len(a) > intBits {
		return 0, false
	}
	n := 0
	for i := len(a) - 1; i >= 0; i-- {
		n = n<<api.Limb + a[i]
	}
	return n, true
}

// Add is the sum.
func Add(a []int, b []int) []int {
	var over carry
	return sums(make([]int, max(len(a), len(b))+1), func(place int) int {
		return at(a, place) + at(b, place)
	}, over.limb)
}

// Sub is a less b, and true, unless b is greater.
func Sub(a []int, b []int) ([]int, bool) {
	if Cmp(a, b) < 0 {
		return nil, false
	}
	var over carry
	return sums(make([]int, len(a)), func(place int) int {
		return at(a, place) - at(b, place)
	}, over.limb), true
}

// Mul is the product. It goes by whole columns: those of MaxLimbs limbs are below 2^57, so that an int holds each.
func Mul(a []int, b []int) []int {
	var over carry
	return sums(make([]int, len(a)+len(b)), func(place int) int {
		column := 0
		for i := max(0, place-len(b)+1); i < len(a) && i <= place; i++ {
			column += a[i] * b[place-i]
		}
		return column
	}, over.limb)
}

// Cmp is -1, 0 or 1, as a is below, equal to, or above b.
func Cmp(a []int, b []int) int {
	if c := cmp.Compare(len(a), len(b)); c != 0 {
		return c
	}
	for i := len(a) - 1; i >= 0; i-- {
		if c := cmp.Compare(a[i], b[i]); c != 0 {
			return c
		}
	}
	return 0
}

// Len is how many bits a has.
func Len(a []int) int {
	if len(a) == 0 {
		return 0
	}
	last := len(a) - 1
	return last*api.Limb + bits.Len(uint(a[last]))
}
