package ivl

import (
	"overtone/api"
	"overtone/dya"
	"overtone/nat"
)

// root is the greatest number of at most n bits whose square is at most d, or, if up, the least whose square is at least d, of d that is not below 0.
func root(d api.Dya, n int, up bool) api.Dya {
	// The root is below 2^high, and at least half of that: so the natural that is sought has all of its n bits, as those next to it have.
	high := (nat.Len(d.M) + d.E + 1) >> 1
	e := high - n
	square, whole := over(d, 2*e)
	m := nat.Root(square)
	if up && !(whole && nat.Cmp(nat.Mul(m, m), square) == 0) {
		m = nat.Add(m, nat.Of(1))
	}
	return dya.Make(false, m, e)
}

// over is d over 2^e, downwards, and whether nothing is left. As the lowest bit of d's natural is 1, something is left wherever bits go.
func over(d api.Dya, e int) ([]int, bool) {
	if d.E < e {
		return nat.Shr(d.M, e-d.E), false
	}
	return nat.Shl(d.M, d.E-e), true
}
