package circ

import (
	"math/big"
	"testing"

	"overtone/api"
	"overtone/turn"
)

// The tests' own cosines are whole parts of 2^fine, off by less than 2^slack of them.
const (
	fine  = 640
	slack = 40
)

// power is 2^k.
func power(k int) *big.Int { return new(big.Int).Lsh(big.NewInt(1), uint(k)) }

// arc is the angle, in parts of 2^fine, whose tangent is 1 over n.
func arc(n int64) *big.Int {
	sum := new(big.Int)
	term := new(big.Int).Quo(power(fine), big.NewInt(n))
	for k := int64(1); term.Sign() != 0; k += 2 {
		part := new(big.Int).Quo(term, big.NewInt(k))
		if k%4 == 3 {
			part.Neg(part)
		}
		sum.Add(sum, part)
		term.Quo(term, big.NewInt(-n*n)).Neg(term)
	}
	return sum
}

// whole turn, in parts of 2^fine: 2 pi, of Machin's sum.
var round = func() *big.Int {
	pi := new(big.Int).Mul(arc(5), big.NewInt(16))
	pi.Sub(pi, new(big.Int).Mul(arc(239), big.NewInt(4)))
	return pi.Lsh(pi, 1)
}()

// series is the cosine and the sine of an angle, by their sums, in parts of 2^fine.
func series(t api.Turn) (*big.Int, *big.Int) {
	x := new(big.Int).Mul(round, new(big.Int).SetInt64(int64(t.K)))
	x.Rem(x, new(big.Int).Lsh(round, uint(t.Q)))
	x.Rsh(x, uint(t.Q))
	parts := [2]*big.Int{new(big.Int), new(big.Int)}
	term := power(fine)
	for k := int64(0); term.BitLen() > 1; {
		if k%4 < 2 {
			parts[k%2].Add(parts[k%2], term)
		} else {
			parts[k%2].Sub(parts[k%2], term)
		}
		k++
		term.Mul(term, x).Rsh(term, fine).Quo(term, big.NewInt(k))
	}
	return parts[0], parts[1]
}

// ends is the multiples of 2^-n around a value in parts of 2^fine, as numbers of 2^-n; both are the same, if the value is one.
func ends(t *testing.T, v *big.Int, n int) (*big.Int, *big.Int) {
	near := new(big.Int).Rsh(new(big.Int).Add(v, power(fine-n-1)), uint(fine-n))
	off := new(big.Int).Sub(v, new(big.Int).Lsh(near, uint(fine-n)))
	one := big.NewInt(1)
	switch {
	case off.BitLen() > slack && off.Sign() > 0:
		return near, new(big.Int).Add(near, one)
	case off.BitLen() > slack:
		return new(big.Int).Sub(near, one), near
	}
	if size := new(big.Int).Abs(near); size.Sign() != 0 && size.Cmp(power(n)) != 0 {
		t.Fatal("the tests' own sum can't tell", n, near)
	}
	return near, near
}

// over is a number over 2^-n, and whether it is a whole multiple of that.
func over(d api.Dya, n int) (*big.Int, bool) {
	m := new(big.Int)
	for i := len(d.M) - 1; i >= 0; i-- {
		m.Lsh(m, api.Limb).Or(m, big.NewInt(int64(d.M[i])))
	}
	if d.Neg {
		m.Neg(m)
	}
	if d.E+n < 0 {
		low := new(big.Int).And(m, new(big.Int).Sub(power(-d.E-n), big.NewInt(1)))
		return m.Rsh(m, uint(-d.E-n)), low.Sign() == 0
	}
	return m.Lsh(m, uint(d.E+n)), true
}

// from fails unless an enclosure is from lo to hi, in multiples of 2^-n.
func from(t *testing.T, i api.Ivl, n int, lo, hi *big.Int, what ...any) {
	t.Helper()
	a, isA := over(i.Lo, n)
	b, isB := over(i.Hi, n)
	if !isA || !isB || a.Cmp(lo) != 0 || b.Cmp(hi) != 0 {
		t.Fatalf("%v, %d bits: from %v to %v, not from %v to %v", what, n, i.Lo, i.Hi, lo, hi)
	}
}

// held fails unless the cosine and the sine of an angle are enclosed as their sums say, with each of so many bits.
func held(t *testing.T, a api.Turn, bits ...int) {
	t.Helper()
	c, s := series(a)
	for _, n := range bits {
		lo, hi := ends(t, c, n)
		from(t, Cos(a, n), n, lo, hi, "cosine", a)
		lo, hi = ends(t, s, n)
		from(t, Sin(a, n), n, lo, hi, "sine", a)
	}
}

// TestSeries holds the tests' own sums against what is known.
func TestSeries(t *testing.T) {
	for _, c := range []struct {
		t        api.Turn
		cos, sin int64
	}{{api.Turn{}, 1, 0}, {api.Turn{K: 1, Q: 2}, 0, 1}, {api.Turn{K: 1, Q: 1}, -1, 0}, {api.Turn{K: -1, Q: 2}, 0, -1}, {api.Turn{K: 1 << 40}, 1, 0}} {
		cos, sin := series(c.t)
		cos.Sub(cos, new(big.Int).Mul(power(fine), big.NewInt(c.cos)))
		sin.Sub(sin, new(big.Int).Mul(power(fine), big.NewInt(c.sin)))
		if cos.BitLen() > slack || sin.BitLen() > slack {
			t.Error(c.t, cos, sin)
		}
	}
	cos, sin := series(api.Turn{K: 1, Q: 3})
	half := new(big.Int).Mul(cos, cos)
	half.Rsh(half, fine).Sub(half, power(fine-1))
	if half.BitLen() > slack || new(big.Int).Sub(cos, sin).BitLen() > slack {
		t.Error("an eighth", cos, sin)
	}
	if turn.Form(api.Turn{K: 8, Q: 3}) != (api.Turn{}) {
		t.Error("a turn")
	}
}
