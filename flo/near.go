package flo

import (
	"overtone/api"
	"overtone/dya"
	"overtone/nat"
)

// nearest is the place of the float nearest to a number of 0 or more. The natural goes into it with its highest bit, which counts as one more in the field; so one that was rounded up to 2^53 is carried to the next power of two, and behind the last to the infinity.
func nearest(size api.Dya) int {
	if dya.Sign(size) == 0 {
		return 0
	}
	height := nat.Len(size.M) + size.E
	if height > most {
		return infinity.place()
	}
	e := max(height-natBits, least)
	return (e-least)<<fractionBits + rounded(size, e)
}

// rounded is the natural that comes nearest to size with 2^e, and of two as near the even one.
func rounded(size api.Dya, e int) int {
	below := nat.Shr(nat.Shl(size.M, size.E-e), e-size.E) // one of both shifts is by 0 or less, and does nothing
	middle := dya.Make(false, nat.Add(nat.Shl(below, 1), nat.Of(1)), e-1)
	m, _ := nat.Int(below)
	switch dya.Cmp(size, middle) {
	case 0:
		if m%2 == 0 {
			break
		}
		fallthrough
	case 1:
		m++
	}
	return m
}
