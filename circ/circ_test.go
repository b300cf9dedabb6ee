package circ

import (
	"math"
	"math/big"
	"math/rand"
	"slices"
	"testing"

	"overtone/api"
	"overtone/dya"
	"overtone/ivl"
)

const big40 = 1 << 40

// some is numbers of bits: few, about limbs' and floats' lengths, and the most.
func some() []int { return []int{1, 2, 3, 4, 7, 10, 23, 24, 25, 53, 64, 100, 239, 399, 400} }

// all is every number of bits.
func all() []int {
	var bits []int
	for n := 1; n <= api.MaxBits; n++ {
		bits = append(bits, n)
	}
	return bits
}

// edges is angles about all eighths of a turn, of few parts and of many, in many forms.
func edges() []api.Turn {
	var told []api.Turn
	for _, q := range []int{3, 5, 13, 20, 39, 40} {
		for eighth := -8; eighth <= 8; eighth++ {
			for off := -1; off <= 1; off++ {
				if a := (api.Turn{K: eighth<<(q-3) + off, Q: q}); a.K >= -big40 && a.K <= big40 {
					told = append(told, a)
				}
			}
		}
	}
	return append(told, api.Turn{K: big40, Q: 39}, api.Turn{K: -big40, Q: 1}, api.Turn{K: big40 - 1, Q: 3}, api.Turn{K: 1 - big40, Q: 4}, api.Turn{K: big40 - 1}, api.Turn{Q: 40})
}

// drawn is so many right angles, that are drawn from a fixed beginning: of all numbers of parts, great and small.
func drawn(from int64, many int) []api.Turn {
	draw := rand.New(rand.NewSource(from))
	var told []api.Turn
	for range many {
		k := draw.Intn(2*big40+1) - big40
		told = append(told, api.Turn{K: k >> draw.Intn(41), Q: draw.Intn(41)})
	}
	return told
}

func TestFewParts(t *testing.T) {
	for q := range 8 {
		for k := -1 << q; k <= 2<<q; k++ {
			held(t, api.Turn{K: k, Q: q}, some()...)
		}
	}
}

func TestManyParts(t *testing.T) {
	for _, a := range append(edges(), drawn(7, 400)...) {
		held(t, a, some()...)
	}
}

func TestAllBits(t *testing.T) {
	for _, a := range []api.Turn{{K: 1, Q: 3}, {K: 3, Q: 4}, {K: -5, Q: 13}, {K: 1, Q: 40}, {K: big40/4 - 1, Q: 40}, {K: big40/2 + 1, Q: 40}, {K: 123456789012, Q: 40}} {
		held(t, a, all()...)
	}
}

// TestMultiples is G1's last words: where the cosine is a multiple both ends are it, and nowhere else.
func TestMultiples(t *testing.T) {
	one := big.NewInt(1)
	for _, n := range all() {
		for k, c := range [4][2]int64{{1, 0}, {0, 1}, {-1, 0}, {0, -1}} {
			for _, a := range []api.Turn{{K: k, Q: 2}, {K: k - 4, Q: 2}, {K: k << 38, Q: 40}, {K: 4*77 + k, Q: 2}} {
				cos := new(big.Int).Mul(power(n), big.NewInt(c[0]))
				sin := new(big.Int).Mul(power(n), big.NewInt(c[1]))
				from(t, Cos(a, n), n, cos, cos, "cosine", a)
				from(t, Sin(a, n), n, sin, sin, "sine", a)
			}
		}
		for _, a := range []api.Turn{{K: 1, Q: 3}, {K: 3, Q: 3}, {K: 1, Q: 40}, {K: big40/4 + 1, Q: 40}} {
			for _, i := range []api.Ivl{Cos(a, n), Sin(a, n)} {
				if got, is := over(ivl.Wide(i), n); !is || got.Cmp(one) != 0 {
					t.Fatal(a, n, i)
				}
			}
		}
	}
}

// TestNearMultiples goes to the angles whose cosines are nearest to multiples: what encloses them with a few bits more than asked for does not tell on which side they are.
func TestNearMultiples(t *testing.T) {
	anew := 0
	for n := 1; n <= 12; n++ {
		for m := 1 - 1<<n; m < 1<<n; m += 1 + 1<<n/50 {
			at := int(math.Round(math.Acos(math.Ldexp(float64(m), -n)) / (2 * math.Pi) * big40))
			for off := -1; off <= 1; off++ {
				a := api.Turn{K: at + off, Q: 40}
				held(t, a, n)
				held(t, api.Turn{K: a.K + big40/4, Q: 40}, n)
				if first := outwards(cosine(a, n+spare), n); dya.Cmp(ivl.Wide(first), dya.Make(false, []int{1}, -n)) > 0 {
					anew++
				}
			}
		}
	}
	if anew < 100 {
		t.Error("too few are done anew", anew)
	}
}

// TestSmall goes to the sines that are the least there are, and the cosines about them: their first bits are lost on the way.
func TestSmall(t *testing.T) {
	for q := 3; q <= 40; q++ {
		for _, k := range []int{1, -1, 3, 1<<q/2 - 1, 1<<q/2 + 1, 1<<q/4 - 1, 3<<q/4 + 1} {
			held(t, api.Turn{K: k, Q: q}, 1, 35, 40, 60, 80, 300, 400)
		}
	}
	a := api.Turn{K: 1, Q: 40}
	from(t, Cos(a, 75), 75, new(big.Int).Sub(power(75), big.NewInt(1)), power(75), "nearly 1")
	from(t, Cos(a, 76), 76, new(big.Int).Sub(power(76), big.NewInt(2)), new(big.Int).Sub(power(76), big.NewInt(1)), "below 1")
	from(t, Sin(a, 37), 37, new(big.Int), big.NewInt(1), "nearly 0")
	from(t, Sin(a, 38), 38, big.NewInt(1), big.NewInt(2), "above 0")
	from(t, Sin(api.Turn{K: -1, Q: 40}, 1), 1, big.NewInt(-1), new(big.Int), "just below 0")
}

func TestByHand(t *testing.T) {
	for _, c := range []struct {
		what string
		got  api.Ivl
		n    int
		ends [2]int64
	}{
		{"of an eighth", Cos(api.Turn{K: 1, Q: 3}, 1), 1, [2]int64{1, 2}},
		{"of three eighths", Cos(api.Turn{K: 3, Q: 3}, 1), 1, [2]int64{-2, -1}},
		{"of 0", Cos(api.Turn{}, 1), 1, [2]int64{2, 2}},
		{"of a quarter", Cos(api.Turn{K: 1, Q: 2}, 400), 400, [2]int64{0, 0}},
		{"of a half", Cos(api.Turn{K: 1, Q: 1}, 3), 3, [2]int64{-8, -8}},
		{"of a sixteenth", Cos(api.Turn{K: 1, Q: 4}, 20), 20, [2]int64{968757, 968758}},
		{"sine of a sixteenth", Sin(api.Turn{K: 1, Q: 4}, 20), 20, [2]int64{401272, 401273}},
		{"sine of 15 sixteenths", Sin(api.Turn{K: 15, Q: 4}, 20), 20, [2]int64{-401273, -401272}},
		{"sine of a quarter", Sin(api.Turn{K: 5, Q: 2}, 2), 2, [2]int64{4, 4}},
		{"sine of a half", Sin(api.Turn{K: -1, Q: 1}, 2), 2, [2]int64{0, 0}},
		{"sine of five eighths", Sin(api.Turn{K: 5, Q: 3}, 10), 10, [2]int64{-725, -724}},
	} {
		from(t, c.got, c.n, big.NewInt(c.ends[0]), big.NewInt(c.ends[1]), c.what)
	}
}

// numbers is right dyadic numbers: edges, and some that are drawn from a fixed beginning.
func numbers() []api.Dya {
	told := []api.Dya{{}}
	draw := rand.New(rand.NewSource(72))
	for _, limbs := range []int{1, 2, 3, 10, 59, 60} {
		for _, e := range []int{-6000, -5999, -1441, -1440, -500, -401, -400, -399, -100, -25, -24, -23, -3, -2, -1, 0, 1, 24, 6000} {
			for kind := range 4 {
				m := make([]int, limbs)
				for i := range m {
					m[i] = [4]int{0, 1<<24 - 1, draw.Intn(1 << 24), draw.Intn(2)}[kind]
				}
				m[0] |= 1
				m[limbs-1] |= 1 << (8 * kind / 2)
				told = append(told, api.Dya{M: m, E: e}, api.Dya{Neg: true, M: slices.Clone(m), E: e})
			}
		}
	}
	return told
}

func TestFloor(t *testing.T) {
	for _, d := range numbers() {
		if !dya.Right(d) {
			t.Fatal("not right", d)
		}
		for _, n := range some() {
			got := Floor(d, n)
			want, _ := over(d, n)
			if m, is := over(got, n); !is || m.Cmp(want) != 0 || !dya.Right(got) {
				t.Fatal(d, n, got)
			}
		}
	}
}

func TestFloorByHand(t *testing.T) {
	d := func(k, e int) api.Dya { return dya.Shift(dya.Of(k), e) }
	for i, c := range []struct{ got, want api.Dya }{
		{Floor(api.Dya{}, 1), api.Dya{}},
		{Floor(d(1, -1), 1), d(1, -1)},
		{Floor(d(-1, -1), 1), d(-1, -1)},
		{Floor(d(1, -2), 1), api.Dya{}},
		{Floor(d(-1, -2), 1), d(-1, -1)},
		{Floor(d(3, -2), 1), d(1, -1)},
		{Floor(d(-3, -2), 1), d(-1, 0)},
		{Floor(d(5, -3), 2), d(1, -1)},
		{Floor(d(-5, -3), 2), d(-3, -2)},
		{Floor(d(1, -6000), 400), api.Dya{}},
		{Floor(d(-1, -6000), 400), d(-1, -400)},
		{Floor(d(-1, -401), 400), d(-1, -400)},
		{Floor(d(-1, -400), 400), d(-1, -400)},
		{Floor(d(-3, -401), 400), d(-1, -399)},
		{Floor(d(1, 6000), 1), d(1, 6000)},
		{Floor(d(-7, 6000), 400), d(-7, 6000)},
		{Floor(d(-1<<24+1, -24), 1), d(-1, 0)},
		{Floor(d(-1<<30+1, -30), 3), d(-1, 0)},
	} {
		if dya.Cmp(c.got, c.want) != 0 || !dya.Right(c.got) {
			t.Error(i, c.got, c.want)
		}
	}
}
