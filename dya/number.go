package dya

import (
	"cmp"
	"math/bits"

	"overtone/api"
	"overtone/nat"
)

// number is a dyadic number, with what is asked of it on the way.
type number struct{ api.Dya }

// sign is -1, 0 or 1, as the number is below, equal to, or above 0.
func (n number) sign() int {
	if len(n.M) == 0 {
		return 0
	}
	if n.Neg {
		return -1
	}
	return 1
}

// own is the same number, in memory of its own.
func (n number) own() api.Dya { return Make(n.Neg, n.M, n.E) }

// length is how many bits the natural has.
func (n number) length() int { return nat.Len(n.M) }

// height is the least power of two that the number's size is below.
func (n number) height() int { return n.length() + n.E }

// over is the natural that makes the number's size with 2^e, which is at most its own power of two.
func (n number) over(e int) []int { return nat.Shl(n.M, n.E-e) }

// without is the number less so many of its lowest bits; out, if what comes of it is to be farther from 0. As a natural's lowest bit is 1, something is always left out.
func (n number) without(many int, out bool) api.Dya {
	rest := nat.Shr(n.M, many)
	if out {
		rest = nat.Add(rest, nat.Of(1))
	}
	return Make(n.Neg, rest, n.E+many)
}

// common is what is made of the naturals of two numbers by a common power of two, the lesser one of theirs.
func common[T any](a, b number, how func(m, n []int, e int) T) T {
	e := min(a.E, b.E)
	return how(a.over(e), b.over(e), e)
}

// sizes is -1, 0 or 1, as a's size is below, equal to, or above b's. Heights go first: naturals of powers of two that are far apart would have more limbs than there may be.
func sizes(a, b number) int {
	if c := cmp.Compare(a.height(), b.height()); c != 0 {
		return c
	}
	return common(a, b, func(m, n []int, _ int) int { return nat.Cmp(m, n) })
}

// lowest is the place of a natural's lowest bit that is 1; 0 of 0.
func lowest(m []int) int {
	for i, limb := range m {
		if limb != 0 {
			return i*api.Limb + bits.TrailingZeros(uint(limb))
		}
	}
	return 0
}
