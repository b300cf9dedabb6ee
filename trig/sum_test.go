package trig

import (
	"math"
	"math/big"
	"testing"

	"overtone/api"
	"overtone/turn"
)

// The tests' own cosines are floats of so many bits, off by less than 2^-300.
const fine = 320

const pi = "3.14159265358979323846264338327950288419716939937510582097494459230781640628620899862803482534211706798"

// wide is a float of many bits.
func wide(f float64) *big.Float { return new(big.Float).SetPrec(fine).SetFloat64(f) }

// sums is the cosine and the sine of an angle, by their sums.
func sums(a api.Turn) (*big.Float, *big.Float) {
	x, _ := new(big.Float).SetPrec(fine).SetString(pi)
	x.Mul(x, wide(2*float64(a.K&(1<<a.Q-1))))
	x.SetMantExp(x, -a.Q)
	parts := [2]*big.Float{wide(0), wide(0)}
	term := wide(1)
	for k := 0; term.Sign() != 0 && (k < 8 || term.MantExp(nil) > -fine); {
		if k%4 < 2 {
			parts[k%2].Add(parts[k%2], term)
		} else {
			parts[k%2].Sub(parts[k%2], term)
		}
		k++
		term.Mul(term, x).Quo(term, wide(float64(k)))
	}
	return parts[0], parts[1]
}

// meant is the cosine and the sine of an angle; of whole quarters they are set right.
func meant(a api.Turn) (*big.Float, *big.Float) {
	quarters := map[api.Turn][2]float64{{}: {1, 0}, {K: 1, Q: 2}: {0, 1}, {K: 1, Q: 1}: {-1, 0}, {K: 3, Q: 2}: {0, -1}}
	if q, is := quarters[turn.Form(a)]; is {
		return wide(q[0]), wide(q[1])
	}
	return sums(a)
}

// off is how far a float is from a number.
func off(f float64, v *big.Float) *big.Float {
	d := new(big.Float).SetPrec(fine).Sub(wide(f), v)
	return d.Abs(d)
}

// near fails unless a float is nearer to a number than both floats beside it are.
func near(t *testing.T, f float64, v *big.Float, what ...any) {
	t.Helper()
	for _, to := range []float64{math.Inf(-1), math.Inf(1)} {
		if off(f, v).Cmp(off(math.Nextafter(f, to), v)) >= 0 {
			t.Fatalf("%v: %v is no nearest float to %s", what, f, v.Text('g', 30))
		}
	}
}

// held fails unless the cosine and the sine of each angle are the floats nearest to their sums.
func held(t *testing.T, angles ...api.Turn) {
	t.Helper()
	for _, a := range angles {
		c, s := meant(a)
		near(t, Cos(a), c, "cosine", a)
		near(t, Sin(a), s, "sine", a)
	}
}

// TestSums holds the tests' own sums against what is known.
func TestSums(t *testing.T) {
	small := new(big.Float).SetMantExp(wide(1), -300)
	for _, known := range []struct {
		a        api.Turn
		cos, sin float64
	}{{api.Turn{}, 1, 0}, {api.Turn{K: 1, Q: 2}, 0, 1}, {api.Turn{K: 1, Q: 1}, -1, 0}, {api.Turn{K: -1, Q: 2}, 0, -1}, {api.Turn{K: 1 << 40}, 1, 0}} {
		c, s := sums(known.a)
		if off(known.cos, c).Cmp(small) > 0 || off(known.sin, s).Cmp(small) > 0 {
			t.Error(known.a, c, s)
		}
	}
	for _, a := range []api.Turn{{K: 1, Q: 3}, {K: -3, Q: 3}, {K: 13, Q: 3}} {
		c, s := sums(a)
		if c.Mul(c, c); off(0.5, c).Cmp(small) > 0 {
			t.Error(a, c)
		}
		if s.Mul(s, s); off(0.5, s).Cmp(small) > 0 {
			t.Error(a, s)
		}
	}
}
