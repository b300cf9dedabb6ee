package ops

import (
	"math"
	"math/big"
	"slices"
	"testing"
)

// middle is the number halfway between two floats.
func middle(a, b float64) *big.Float {
	sum := new(big.Float).SetPrec(4400).Add(exactly(a), exactly(b))
	return sum.Quo(sum, big.NewFloat(2))
}

// TestRoot asks of each root that the float lies between the squares of the middles to its neighbours: so no float is nearer (P4.3), and no root of a float is such a middle itself.
func TestRoot(t *testing.T) {
	for _, f := range append(edges(), drawn(14, 30000)...) {
		got := Root(math.Abs(f))
		if got == 0 && f == 0 {
			continue
		}
		below, above := middle(math.Nextafter(got, 0), got), middle(got, math.Nextafter(got, inf))
		if got <= 0 || below.Mul(below, below).Cmp(exactly(math.Abs(f))) >= 0 || above.Mul(above, above).Cmp(exactly(math.Abs(f))) <= 0 {
			t.Fatal(math.Abs(f), got)
		}
		if f < 0 && !alike(Root(f), nan) {
			t.Fatal(f, Root(f))
		}
	}
}

func TestRootByHand(t *testing.T) {
	for a, want := range map[float64]float64{
		0: 0, zero: 0, 1: 1, 2: math.Sqrt2, 4: 2, 9: 3, 0.25: 0.5, small: 0x1p-537, 4 * small: 0x1p-536, great: 0x1.fffffffffffffp511,
		0x1p-1022: 0x1p-511, 1 - 0x1p-53: 1 - 0x1p-53, 1 + 0x1p-52: 1, inf: inf, -inf: nan, -1: nan, -small: nan, -great: nan,
	} {
		if got := Root(a); !alike(got, want) {
			t.Error(a, got)
		}
	}
	if got := Root(nan); got == got {
		t.Error("of no number", got)
	}
}

// TestScale holds answers against exact ones, rounded once by the library: for each float about the powers that bring it to the ends of the format, and far beyond.
func TestScale(t *testing.T) {
	for _, f := range append(edges(), drawn(15, 3000)...) {
		var powers []int
		for k := -70; k <= 10; k++ {
			powers = append(powers, k, -1020-math.Ilogb(f)+k, 1022-math.Ilogb(f)+k)
		}
		for _, k := range append(powers, -5000, -4999, -2200, -2098, -2097, -1100, -1024, 1023, 1024, 2097, 2098, 2200, 4999, 5000) {
			if f == 0 {
				k %= 5000
			}
			want := nearby(new(big.Float).SetMantExp(exactly(f), k))
			if got := Scale(f, k); got != want {
				t.Fatal(f, k, got, want)
			}
		}
	}
}

func TestScaleByHand(t *testing.T) {
	for what, c := range map[string][2]float64{
		"up":                               {Scale(3, 4), 48},
		"down":                             {Scale(-3, -1), -1.5},
		"by nothing":                       {Scale(0.1, 0), 0.1},
		"by nothing, of the least":         {Scale(-small, 0), -small},
		"0, however far":                   {Scale(0, 5000), 0},
		"the least to 1":                   {Scale(small, 1074), 1},
		"the least to the last power":      {Scale(small, 2097), 0x1p1023},
		"the least beyond":                 {Scale(-small, 2098), -inf},
		"the greatest to the least":        {Scale(great, -2098), small},
		"the greatest to less than a half": {Scale(great, -2099), 0},
		"half of the least":                {Scale(1, -1075), 0},
		"more than half of the least":      {Scale(1+0x1p-52, -1075), small},
		"three halves, to even":            {Scale(3, -1075), 2 * small},
		"five halves, to even":             {Scale(-5, -1075), -2 * small},
		"rounded once, not twice":          {Scale(0x1.0000000000003p0, -1023), 0x1.0000000000004p-1023},
		"less than a half, not twice":      {Scale(0x1.7ffffffffffffp0, -1074), small},
		"to the greatest of field 0":       {Scale(0x1.ffffffffffffep-1, -1022), 0x1p-1022 - small},
		"carried to field 1":               {Scale(0x1.fffffffffffffp-1, -1022), 0x1p-1022},
		"the greatest power":               {Scale(small, 5000), inf},
		"the least power":                  {Scale(-great, -5000), 0},
		"an infinity":                      {Scale(inf, -5000), inf},
		"the lesser infinity":              {Scale(-inf, -9), -inf},
	} {
		if c[0] != c[1] {
			t.Errorf("%s: got %v, not %v", what, c[0], c[1])
		}
	}
	if got := Scale(nan, 3); got == got {
		t.Error("of no number", got)
	}
}

// TestScaleFar: of powers beyond 5000 nothing is said, but no call panics, and each ends.
func TestScaleFar(t *testing.T) {
	for _, k := range []int{math.MinInt, math.MinInt + 1, math.MinInt32, -5001, 5001, math.MaxInt32, math.MaxInt - 1, math.MaxInt} {
		for _, f := range append(edges(), inf, -inf, nan) {
			Scale(f, k)
		}
	}
}

// TestSum goes from the first on: other orders come to other floats.
func TestSum(t *testing.T) {
	for what, c := range map[string]struct {
		l    []float64
		want float64
	}{
		"none":               {nil, 0},
		"none, empty":        {[]float64{}, 0},
		"one":                {[]float64{0.1}, 0.1},
		"one nought":         {[]float64{zero}, 0},
		"the great first":    {[]float64{0x1p53, 1, 1}, 0x1p53},
		"the great last":     {[]float64{1, 1, 0x1p53}, 0x1p53 + 2},
		"the great between":  {[]float64{1, 0x1p53, 1}, 0x1p53},
		"not two by two":     {[]float64{0x1p53, 1, -0x1p53, 1}, 1},
		"tenths":             {slices.Repeat([]float64{0.1}, 10), 0.9999999999999999},
		"beyond, and back":   {[]float64{great, great, -great, -great}, inf},
		"nothing made up":    {[]float64{1, 0x1p-53, 0x1p-53, 0x1p-53}, 1},
		"both infinities":    {[]float64{inf, 1, -inf, 1}, nan},
		"one infinity":       {[]float64{1, -inf, great, great}, -inf},
		"one that is no one": {[]float64{1, nan, 2}, nan},
	} {
		if got := Sum(c.l); !alike(got, c.want) {
			t.Errorf("%s: got %v, not %v", what, got, c.want)
		}
	}
	for n := range 200 {
		l := drawn(int64(20+n), n)
		want := 0.0
		for _, f := range l {
			if !finite(want) {
				break
			}
			want = nearby(new(big.Float).SetPrec(4400).Add(exactly(want), exactly(f)))
		}
		if got := Sum(l); finite(want) && got != want {
			t.Fatal(n, got, want)
		}
	}
}

// TestSumNewMemory is P3: a row, and its spare room, stay as they are.
func TestSumNewMemory(t *testing.T) {
	row := []float64{0.1, zero, 0.3, 77, 77}
	was := slices.Clone(row)
	if a, b := Sum(row[:3]), Sum(row[:3]); a != b || a != 0.4 {
		t.Error(a, b)
	}
	for i := range row {
		if math.Float64bits(row[i]) != math.Float64bits(was[i]) {
			t.Error(i, row[i])
		}
	}
}

// unseen is floats that the compiler can't look through to: else it would work the products of them out by itself. The product of the first two is 1 - 2^-60, and rounded 1.
var unseen = []float64{1 + 0x1p-30, 1 - 0x1p-30, -1}

// TestNotFused is P4: a product is rounded ahead of the sum that it goes into, even where the compiler may fuse.
func TestNotFused(t *testing.T) {
	a, b, less := unseen[0], unseen[1], unseen[2]
	if got := Add(Mul(a, b), less); got != 0 {
		t.Error("a product put into Add", got)
	}
	if got := Sub(-less, Mul(a, b)); got != 0 {
		t.Error("a product put into Sub", got)
	}
	if got := Mul(a, b) + less; got != 0 {
		t.Error("a product put into a sum of the caller's", got)
	}
	if got := Add(a*b, less); got != 0 {
		t.Error("a product of the caller's put into Add", got)
	}
	left, right := drawn(16, 3000), drawn(17, 3000)
	for i, c := range drawn(18, 3000) {
		product := nearby(new(big.Float).SetPrec(4400).Mul(exactly(left[i]), exactly(right[i])))
		if !finite(product) {
			continue
		}
		c = math.Ldexp(c, math.Ilogb(product)-math.Ilogb(c))
		if want := nearby(new(big.Float).SetPrec(4400).Add(exactly(product), exactly(c))); finite(c) && Add(Mul(left[i], right[i]), c) != want {
			t.Fatal(left[i], right[i], c, want)
		}
	}
}

// TestHandedOn: each call is a function that may be handed on as a value.
func TestHandedOn(t *testing.T) {
	for i, c := range []struct {
		by   func(a float64, b float64) float64
		want float64
	}{{Add, 5}, {Sub, 1}, {Mul, 6}} {
		if got := c.by(3, 2); got != c.want {
			t.Error(i, got)
		}
	}
}
