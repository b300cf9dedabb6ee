package ops

import (
	"math"
	"math/big"
	"math/rand"
	"slices"
	"testing"
)

const (
	small = math.SmallestNonzeroFloat64
	great = math.MaxFloat64
)

var (
	inf  = math.Inf(1)
	nan  = math.NaN()
	zero = math.Copysign(0, -1)
)

// alike tells whether two floats are.
func alike(a, b float64) bool { return a == b || a != a && b != b }

// exactly is a finite float, by the library's own, with room for every sum and product of two.
func exactly(f float64) *big.Float { return new(big.Float).SetPrec(4400).SetFloat64(f) }

// nearby is the float nearest to a number, by the library's own rounding.
func nearby(x *big.Float) float64 {
	f, _ := x.Float64()
	return f
}

// finite tells whether a float is.
func finite(f float64) bool { return !math.IsInf(f, 0) && f == f }

// edges is floats at the ends of what the format has, both noughts among them, and their opposites.
func edges() []float64 {
	var all []float64
	for _, f := range []float64{
		0, small, 2 * small, 3 * small, 5 * small, 0x1p-1022 - small, 0x1p-1022, 0x1p-1022 + small, 0x1p-1021,
		0x1p-538, 0x1p-537, 0x1.8p-537, 0x1p-512, 0x1p-511, 0x1p-54, 0x1p-53, 0x1.8p-53, 0x1.0000000000001p-53, 0x1p-52,
		0.1, 0.2, 0.3, 0.5, 1 - 0x1p-53, 1, 1 + 0x1p-52, 1.5, 2, 3, 1e10, 0x1p52, 0x1p53 - 1, 0x1p53, 0x1p53 + 2, 0x1p54,
		0x1p511, 0x1p512, 0x1.6a09e667f3bcdp511, 0x1p969, 0x1p970, 0x1.fffffffffffffp969, 0x1p971, 0x1p1022, 0x1p1023, 0x1.ffffffffffffep1023, great,
	} {
		all = append(all, f, -f)
	}
	return append(all, zero)
}

// drawn is finite floats from a fixed beginning, of all powers of two, and of few bits as well as of many.
func drawn(seed int64, count int) []float64 {
	draw := rand.New(rand.NewSource(seed))
	var all []float64
	for len(all) < count {
		f := math.Float64frombits(draw.Uint64() &^ (1<<(draw.Intn(53)) - 1))
		if finite(f) {
			all = append(all, f)
		}
	}
	return all
}

// pairs is floats two by two: each edge with each, and drawn ones, of which some are so near to one another that bits of both meet.
func pairs() [][2]float64 {
	var all [][2]float64
	for _, a := range edges() {
		for _, b := range edges() {
			all = append(all, [2]float64{a, b})
		}
	}
	draw := rand.New(rand.NewSource(11))
	right := drawn(13, 20000)
	for i, a := range drawn(12, 20000) {
		near := math.Ldexp(1+draw.Float64(), math.Ilogb(a)+draw.Intn(120)-60)
		back := math.Ldexp(1+draw.Float64(), -math.Ilogb(a)-draw.Intn(2200)+1100)
		all = append(all, [2]float64{a, right[i]}, [2]float64{a, near}, [2]float64{a, -near}, [2]float64{a, back})
	}
	return slices.DeleteFunc(all, func(p [2]float64) bool { return !finite(p[0]) || !finite(p[1]) })
}

// TestOfTwo holds sums, differences and products against exact ones, rounded by the library (D1), and goes both ways (P4.2).
func TestOfTwo(t *testing.T) {
	for _, p := range pairs() {
		a, b := p[0], p[1]
		x, y := exactly(a), exactly(b)
		if got := Add(a, b); got != nearby(new(big.Float).SetPrec(4400).Add(x, y)) || got != Add(b, a) {
			t.Fatal("sum", a, b, got)
		}
		if got := Sub(a, b); got != nearby(new(big.Float).SetPrec(4400).Sub(x, y)) || got != Add(a, -b) {
			t.Fatal("difference", a, b, got)
		}
		if got := Mul(a, b); got != nearby(new(big.Float).SetPrec(4400).Mul(x, y)) || got != Mul(b, a) {
			t.Fatal("product", a, b, got)
		}
	}
}

func TestOfTwoByHand(t *testing.T) {
	for what, c := range map[string][2]float64{
		"the chapter's example":             {Add(0.1, 0.2), 0.30000000000000004},
		"a half, down to even":              {Add(1, 0x1p-53), 1},
		"a half, up to even":                {Add(1+0x1p-52, 0x1p-53), 1 + 0x1p-51},
		"more than a half":                  {Add(1, 0x1.0000000000001p-53), 1 + 0x1p-52},
		"to the infinity":                   {Add(great, 0x1p970), inf},
		"not yet to the infinity":           {Add(great, 0x1.fffffffffffffp969), great},
		"to the lesser infinity":            {Add(-great, -great), -inf},
		"of the least":                      {Add(small, small), 2 * small},
		"nothing left":                      {Add(small, -small), 0},
		"a difference":                      {Sub(0.3, 0.1), 0.19999999999999998},
		"a difference of the least":         {Sub(0x1p-1022, small), 0x1p-1022 - small},
		"a difference beyond":               {Sub(-great, great), -inf},
		"a product":                         {Mul(0.1, 0.1), 0.010000000000000002},
		"a product, down to even":           {Mul(1+0x1p-26, 1+0x1p-27), 1 + 0x1p-26 + 0x1p-27},
		"a product, up to even":             {Mul(1+0x1p-52, 1.5), 1.5 + 0x1p-51},
		"half of the least":                 {Mul(small, 0.5), 0},
		"half of thrice the least":          {Mul(3*small, 0.5), 2 * small},
		"half of five times the least":      {Mul(5*small, -0.5), -2 * small},
		"beyond":                            {Mul(0x1p512, -0x1p512), -inf},
		"just not beyond":                   {Mul(0x1p512, 0x1p511), 0x1p1023},
		"below 0, times below 0":            {Mul(-3, -5), 15},
		"a product that is rounded to 0":    {Mul(1e-200, -1e-200), 0},
		"the greatest, halved and doubled":  {Mul(Mul(great, 0.5), 2), great},
		"0 with nothing":                    {Mul(0, zero), 0},
		"an infinity and a float":           {Add(inf, -great), inf},
		"a float and the lesser infinity":   {Add(5, -inf), -inf},
		"two infinities":                    {Add(-inf, -inf), -inf},
		"less an infinity":                  {Sub(5, inf), -inf},
		"an infinity less the other one":    {Sub(inf, -inf), inf},
		"an infinity times below 0":         {Mul(inf, -small), -inf},
		"below 0 times the lesser infinity": {Mul(-2, -inf), inf},
		"both infinities":                   {Mul(inf, -inf), -inf},
		"the lesser infinity twice":         {Mul(-inf, -inf), inf},
	} {
		if c[0] != c[1] {
			t.Errorf("%s: got %v, not %v", what, c[0], c[1])
		}
	}
}

// TestNotFinite is D1 where one of both is not finite, told by its words.
func TestNotFinite(t *testing.T) {
	all := append(edges(), inf, -inf, nan, math.Float64frombits(0xfff0000000000001))
	for _, a := range all {
		for _, b := range all {
			if finite(a) && finite(b) {
				continue
			}
			if got, want := Add(a, b), sumBeyond(a, b); !alike(got, want) {
				t.Error("sum", a, b, got)
			}
			if got, want := Sub(a, b), sumBeyond(a, -b); !alike(got, want) {
				t.Error("difference", a, b, got)
			}
			if got, want := Mul(a, b), productBeyond(a, b); !alike(got, want) {
				t.Error("product", a, b, got)
			}
		}
	}
}

// sumBeyond is the sum of two of which one is not finite.
func sumBeyond(a, b float64) float64 {
	switch {
	case a != a || b != b || finite(a) == finite(b) && (a < 0) != (b < 0):
		return nan
	case finite(a):
		return b
	}
	return a
}

// productBeyond is the product of two of which one is not finite.
func productBeyond(a, b float64) float64 {
	switch {
	case a != a || b != b || a == 0 || b == 0:
		return nan
	case (a < 0) != (b < 0):
		return -inf
	}
	return inf
}
