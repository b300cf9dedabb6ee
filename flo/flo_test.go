package flo

import (
	"math"
	"math/big"
	"math/rand"
	"slices"
	"testing"

	"overtone/api"
	"overtone/dya"
)

const (
	top   = 1<<24 - 1
	small = math.SmallestNonzeroFloat64
	great = math.MaxFloat64
)

// natural is the row of limbs of a value.
func natural(n *big.Int) []int {
	var m []int
	base := big.NewInt(1 << 24)
	for rest := new(big.Int).Abs(n); rest.Sign() > 0; {
		limb := new(big.Int)
		rest.DivMod(rest, base, limb)
		m = append(m, int(limb.Int64()))
	}
	return m
}

// exactly is a number, by the library's own.
func exactly(d api.Dya) *big.Float {
	n := new(big.Int)
	for i := len(d.M) - 1; i >= 0; i-- {
		n.Lsh(n, 24).Add(n, big.NewInt(int64(d.M[i])))
	}
	if d.Neg {
		n.Neg(n)
	}
	f := new(big.Float).SetPrec(2000).SetInt(n)
	return f.SetMantExp(f, d.E)
}

// power is 2^e.
func power(e int) api.Dya { return api.Dya{M: []int{1}, E: e} }

// sum is all of them together.
func sum(all ...api.Dya) api.Dya {
	var s api.Dya
	for _, d := range all {
		s = dya.Add(s, d)
	}
	return s
}

// less is a less b.
func less(a, b api.Dya) api.Dya { return dya.Add(a, dya.Flip(b)) }

// same tells whether numbers are alike.
func same(a, b api.Dya) bool { return a.Neg == b.Neg && a.E == b.E && slices.Equal(a.M, b.M) }

// number is that of a finite float, by the library's own.
func number(f float64) api.Dya {
	if f == 0 {
		return api.Dya{}
	}
	fraction, e := math.Frexp(math.Abs(f))
	m := big.NewInt(int64(math.Ldexp(fraction, 53)))
	low := m.TrailingZeroBits()
	return api.Dya{Neg: f < 0, M: natural(m.Rsh(m, low)), E: e - 53 + int(low)}
}

// bits is the float of a sign, a field and a fraction.
func bits(sign, field, fraction uint64) float64 {
	return math.Float64frombits(sign<<63 | field<<52 | fraction)
}

// finite is floats of all fields, with fractions at their ends and some that are drawn from a fixed beginning, both noughts among them.
func finite() []float64 {
	var all []float64
	draw := rand.New(rand.NewSource(3))
	for field := range uint64(2047) {
		for _, fraction := range []uint64{0, 1, 2, 1<<52 - 2, 1<<52 - 1, draw.Uint64() >> 12, draw.Uint64() >> 12, draw.Uint64() >> 38} {
			all = append(all, bits(0, field, fraction), bits(1, field, fraction))
		}
	}
	for _, f := range []float64{1, 2, 3, 0.75, 0.1, 0.5, 10, 1e10, 1e-10, 1 << 53, 1<<53 + 2, 3e-320, 0x1.8p-1050, great, small, 0x1p-1022} {
		all = append(all, f, -f)
	}
	return all
}

// infinite is all that is not finite: infinities, and some of each sort that are no numbers.
func infinite() []float64 {
	all := []float64{math.Inf(1), math.Inf(-1), math.NaN()}
	for _, fraction := range []uint64{1, 2, 1 << 51, 1<<51 + 1, 1<<51 - 1, 1<<52 - 1} {
		all = append(all, bits(0, 2047, fraction), bits(1, 2047, fraction))
	}
	return all
}

func TestOf(t *testing.T) {
	for _, f := range finite() {
		if got, is := Of(f); !is || !same(got, number(f)) || !dya.Right(got) || exactly(got).Cmp(big.NewFloat(f)) != 0 {
			t.Fatal(f, got, is)
		}
	}
	for _, f := range infinite() {
		if got, is := Of(f); is || got.Neg || len(got.M) != 0 || got.E != 0 {
			t.Error(f, got, is)
		}
	}
}

func TestOfByHand(t *testing.T) {
	for f, want := range map[float64]api.Dya{
		0:                      {},
		0.75:                   {M: []int{3}, E: -2},
		-2.5:                   {Neg: true, M: []int{5}, E: -1},
		1:                      {M: []int{1}},
		-1 << 40:               {Neg: true, M: []int{1}, E: 40},
		0.1:                    {M: natural(big.NewInt(0x1999999999999a >> 1)), E: -55},
		small:                  {M: []int{1}, E: -1074},
		-3 * small:             {Neg: true, M: []int{3}, E: -1074},
		0x1p-1022:              {M: []int{1}, E: -1022},
		0x1p-1022 - small:      {M: natural(big.NewInt(1<<52 - 1)), E: -1074},
		0x1p-1022 + small:      {M: natural(big.NewInt(1<<52 + 1)), E: -1074},
		great:                  {M: natural(big.NewInt(1<<53 - 1)), E: 971},
		-0x1p1023:              {Neg: true, M: []int{1}, E: 1023},
		1 + 0x1p-52:            {M: natural(big.NewInt(1<<52 + 1)), E: -52},
		-0x1.fffffffffffffp-50: {Neg: true, M: natural(big.NewInt(1<<53 - 1)), E: -102},
	} {
		if got, is := Of(f); !is || !same(got, want) {
			t.Error(f, got, is)
		}
	}
}

func TestSame(t *testing.T) {
	all := append(infinite(), 0, math.Copysign(0, -1), 1, -1, 1+0x1p-52, -1-0x1p-52, 2, small, -small, 0x1p-1022, great, -great, bits(0, 1023, 1<<51), bits(0, 1024, 1<<51))
	for _, a := range all {
		for _, b := range all {
			if got := Same(a, b); got != (a == b || a != a && b != b) {
				t.Error(math.Float64bits(a), math.Float64bits(b), got)
			}
		}
	}
	for _, f := range finite() {
		above := math.Nextafter(f, math.Inf(1))
		if !Same(f, f) || Same(f, above) || Same(above, f) || f != 0 && Same(f, -f) || Same(f, math.NaN()) || Same(math.Inf(1), f) {
			t.Fatal(f)
		}
	}
	if !Same(0, math.Copysign(0, -1)) || !Same(math.Copysign(0, -1), 0) || !Same(math.NaN(), bits(1, 2047, 5)) {
		t.Error("alike, though of other bits")
	}
}

func TestNext(t *testing.T) {
	for _, f := range finite() {
		if got := Next(f); got != math.Nextafter(f, math.Inf(1)) || got <= f {
			t.Fatal(f, got)
		}
	}
	for f, want := range map[float64]float64{
		1: 1 + 0x1p-52, -1: -1 + 0x1p-53, 0: small, -small: 0, small: 2 * small, -2 * small: -small,
		great: math.Inf(1), math.Inf(1): math.Inf(1), math.Inf(-1): -great, -great: -0x1.ffffffffffffep1023,
		0x1p-1022 - small: 0x1p-1022, -0x1p-1022: -0x1p-1022 + small, 2 - 0x1p-52: 2,
	} {
		if got := Next(f); got != want {
			t.Error(f, got)
		}
	}
	if got := Next(math.Copysign(0, -1)); got != small {
		t.Error("the other nought", got)
	}
	for _, f := range infinite() {
		if got := Next(f); f != f && got == got {
			t.Error("no number", math.Float64bits(f), got)
		}
	}
}

// TestBack is P3.2.
func TestBack(t *testing.T) {
	for _, f := range finite() {
		if d, is := Of(f); !is || Near(d) != f {
			t.Fatal(f, d, Near(d))
		}
		if got := Near(number(f)); got != f {
			t.Fatal(f, got)
		}
	}
}
