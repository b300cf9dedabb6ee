package dya

import (
	"math"
	"math/big"
	"math/rand"
	"slices"
	"testing"

	"overtone/api"
)

const (
	top   = 1<<24 - 1
	scale = 6000 + 24*60 // times two to that, every number of these tests is whole
)

// value is that of a natural, by the library's own.
func value(m []int) *big.Int {
	n := new(big.Int)
	for i := len(m) - 1; i >= 0; i-- {
		n.Lsh(n, 24).Add(n, big.NewInt(int64(m[i])))
	}
	return n
}

// natural is the row of limbs of a value.
func natural(n *big.Int) []int {
	var m []int
	base := big.NewInt(1 << 24)
	for rest := new(big.Int).Abs(n); rest.Sign() > 0; {
		limb := new(big.Int)
		rest.DivMod(rest, base, limb)
		m = append(m, int(limb.Int64()))
	}
	return m
}

// whole is a number times 2^scale.
func whole(d api.Dya) *big.Int {
	n := new(big.Int).Lsh(value(d.M), uint(d.E+scale))
	if d.Neg {
		n.Neg(n)
	}
	return n
}

// form is the one form of a value over 2^down.
func form(n *big.Int, down int) api.Dya {
	if n.Sign() == 0 {
		return api.Dya{}
	}
	low := n.TrailingZeroBits()
	return api.Dya{Neg: n.Sign() < 0, M: natural(new(big.Int).Rsh(new(big.Int).Abs(n), low)), E: int(low) - down}
}

// same tells whether numbers are alike.
func same(a, b api.Dya) bool { return a.Neg == b.Neg && a.E == b.E && slices.Equal(a.M, b.M) }

// alike fails unless got is what is wanted.
func alike(t *testing.T, got, want api.Dya, what ...any) {
	t.Helper()
	if !same(got, want) {
		t.Errorf("%v: got %v, not %v", what, got, want)
	}
}

// filled is a row of n limbs that are all alike.
func filled(n, limb int) []int { return slices.Repeat([]int{limb}, n) }

// ends is a row of n limbs, 1 at both ends, noughts between.
func ends(n int) []int {
	m := make([]int, n)
	m[0], m[n-1] = 1, 1
	return m
}

// some is right numbers of at most n limbs, of powers of two from -far to far: edges, and some that are drawn from a fixed beginning; each with its opposite, and 0.
func some(n, far int) []api.Dya {
	rows := [][]int{{1}, {3}, {5}, {top}, {1, 1}, {top, top}, filled(n, top), ends(n), append(filled(n-1, top), 1)}
	draw := rand.New(rand.NewSource(2))
	for _, many := range []int{1, 2, 3, n / 2, n} {
		m := make([]int, many)
		for i := range m {
			m[i] = draw.Intn(top + 1)
		}
		m[0] |= 1
		m[many-1] |= 1 << draw.Intn(24)
		rows = append(rows, m)
	}
	all := []api.Dya{{}, {M: []int{}}}
	for i, m := range rows {
		for _, e := range []int{-far, -far + 1, -25, -1, 0, 1, 24, far, draw.Intn(2*far+1) - far}[i%3*3 : i%3*3+3] {
			all = append(all, api.Dya{M: m, E: e}, api.Dya{Neg: true, M: m, E: e})
		}
	}
	for _, e := range []int{-far, -3, 0, 3, far} {
		all = append(all, api.Dya{M: []int{1}, E: e}, api.Dya{Neg: true, M: []int{1}, E: e})
	}
	return all
}

// TestSome holds that what the tests are made of is right.
func TestSome(t *testing.T) {
	for _, d := range some(60, 6000) {
		if !Right(d) {
			t.Error(d)
		}
	}
}

func TestRight(t *testing.T) {
	right := map[string]api.Dya{
		"0": {}, "0, empty": {M: []int{}}, "1": {M: []int{1}}, "-1": {Neg: true, M: []int{1}}, "a nought inside": {M: []int{1, 0, 1}},
		"an even limb behind": {M: []int{1, 2}}, "the greatest power": {M: []int{1}, E: 6000}, "the least": {Neg: true, M: []int{1}, E: -6000},
		"the longest": {M: filled(60, top), E: 6000}, "the longest of few bits": {M: ends(60), E: -6000},
	}
	for what, d := range right {
		if !Right(d) {
			t.Errorf("%s: not right", what)
		}
	}
	wrong := map[string]api.Dya{
		"0 below 0": {Neg: true}, "0 with a power": {E: 3}, "0 with a power below 0": {M: []int{}, E: -1}, "0 with both": {Neg: true, E: 1},
		"even": {M: []int{2}}, "even, odd limbs behind": {M: []int{2, 1}}, "a nought first": {M: []int{0, 1}}, "noughts": {M: []int{0}},
		"last limb 0": {M: []int{1, 0}}, "a limb below 0": {M: []int{-1}}, "last limb below 0": {M: []int{1, -1}}, "a limb too great": {M: []int{1<<24 + 1}}, "far too great": {M: []int{math.MaxInt}},
		"too great a power": {M: []int{1}, E: 6001}, "too small a power": {M: []int{1}, E: -6001}, "far too great a power": {M: []int{1}, E: math.MaxInt}, "far too small a power": {M: []int{1}, E: math.MinInt},
		"too long": {M: filled(61, top)}, "too long, of few bits": {M: ends(61)}, "much too long": {M: filled(301, 1)}, "too long, even": {M: append(make([]int, 60), 1)},
	}
	for what, d := range wrong {
		if Right(d) {
			t.Errorf("%s: right", what)
		}
	}
}

func TestOf(t *testing.T) {
	for _, n := range []int{0, 1, 2, 3, 12, top, top + 1, 1<<48 - 1, 1 << 48, 1<<62 - 1, 1<<62 - 2, 1 << 61, 1 << 62} {
		alike(t, Of(n), form(big.NewInt(int64(n)), 0), n)
		alike(t, Of(-n), form(big.NewInt(int64(-n)), 0), -n)
	}
	alike(t, Of(-12), api.Dya{Neg: true, M: []int{3}, E: 2}, "by hand")
}

func TestMake(t *testing.T) {
	alike(t, Make(false, []int{8}, -4), api.Dya{M: []int{1}, E: -1}, "a half")
	alike(t, Make(false, []int{3}, -2), api.Dya{M: []int{3}, E: -2}, "0.75")
	for _, m := range [][]int{{1}, {2}, {6}, {1 << 23}, {0, 1}, {0, 1 << 23}, {0, 0, 12}, {top, top}, {0, top, 0, top}, filled(60, top), {1 << 4, 0, 1}} {
		for _, e := range []int{-6000, -100, -24, -1, 0, 1, 23, 24, 5000} {
			alike(t, Make(false, m, e), form(value(m), -e), m, e)
			alike(t, Make(true, m, e), form(new(big.Int).Neg(value(m)), -e), "below 0", m, e)
		}
	}
}

// TestMakeEdges has naturals and powers of two that no right number has, but make one.
func TestMakeEdges(t *testing.T) {
	for _, e := range []int{0, 7, -7, 6001, math.MaxInt, math.MinInt} {
		for _, neg := range []bool{false, true} {
			alike(t, Make(neg, nil, e), api.Dya{}, "0", neg, e)
			alike(t, Make(neg, []int{}, e), api.Dya{}, "0, empty", neg, e)
		}
	}
	long := append(make([]int, 299), 1<<23)
	alike(t, Make(true, long, -7199), api.Dya{Neg: true, M: []int{1}}, "the longest natural")
	alike(t, Make(false, long, -13199), api.Dya{M: []int{1}, E: -6000}, "up to the least power")
	alike(t, Make(false, long, -1199), api.Dya{M: []int{1}, E: 6000}, "up to the greatest power")
	alike(t, Make(false, append(make([]int, 240), filled(60, top)...), -5760), api.Dya{M: filled(60, top)}, "the longest of both")
	alike(t, Make(false, append(append([]int{1 << 23}, filled(59, top)...), 1<<23-1), -23), api.Dya{M: filled(60, top)}, "60 limbs in 61")
}

func TestFlipAndSign(t *testing.T) {
	for _, d := range some(60, 6000) {
		alike(t, Flip(d), form(new(big.Int).Neg(whole(d)), scale), "flip", d)
		alike(t, Flip(Flip(d)), d, "twice", d)
		if got := Sign(d); got != whole(d).Sign() || got != Cmp(d, api.Dya{}) {
			t.Error("sign", d, got)
		}
	}
}

func TestShift(t *testing.T) {
	for _, d := range some(60, 2900) {
		for _, k := range []int{-3000, -100, -24, -1, 0, 1, 23, 24, 25, 3000} {
			want := d
			if len(d.M) > 0 {
				want.E += k
			}
			alike(t, Shift(d, k), want, "shift", d, k)
		}
	}
	for _, k := range []int{-6001, 6001, math.MinInt, math.MaxInt} {
		alike(t, Shift(api.Dya{}, k), api.Dya{}, "0", k)
	}
	alike(t, Shift(api.Dya{M: []int{5}, E: -6000}, 12000), api.Dya{M: []int{5}, E: 6000}, "all the way up")
	alike(t, Shift(api.Dya{Neg: true, M: []int{5}, E: 6000}, -12000), api.Dya{Neg: true, M: []int{5}, E: -6000}, "all the way down")
}

func TestSumsAndProducts(t *testing.T) {
	all := some(20, 300)
	for _, a := range all {
		for _, b := range all {
			x, y := whole(a), whole(b)
			alike(t, Add(a, b), form(new(big.Int).Add(x, y), scale), "add", a, b)
			alike(t, Mul(a, b), form(new(big.Int).Mul(x, y), 2*scale), "mul", a, b)
		}
	}
}

// TestLongest goes to what comes in and out of 60 limbs, and of the greatest and least powers of two.
func TestLongest(t *testing.T) {
	for _, d := range some(60, 6000) {
		for _, nought := range []api.Dya{{}, {M: []int{}}} {
			alike(t, Add(d, nought), d, "add 0", d)
			alike(t, Add(nought, d), d, "to 0 add", d)
			alike(t, Mul(d, nought), api.Dya{}, "mul 0", d)
			alike(t, Mul(nought, d), api.Dya{}, "0 mul", d)
		}
		alike(t, Add(d, Flip(d)), api.Dya{}, "add the opposite", d)
		alike(t, Mul(d, Of(1)), d, "mul 1", d)
		alike(t, Mul(Of(-1), d), Flip(d), "mul -1", d)
	}
	for _, e := range []int{-6000, 0, 4000} {
		all := api.Dya{M: filled(60, top), E: e}
		alike(t, Add(all, api.Dya{M: []int{1}, E: e}), api.Dya{M: []int{1}, E: e + 1440}, "one more bit", e)
		alike(t, Add(all, api.Dya{Neg: true, M: []int{1}, E: e + 1439}), api.Dya{M: natural(new(big.Int).Rsh(value(all.M), 1)), E: e}, "less the highest bit", e)
		alike(t, Add(api.Dya{M: []int{1}, E: e + 1440}, Flip(all)), api.Dya{M: []int{1}, E: e}, "all bits but one go", e)
		alike(t, Add(api.Dya{M: []int{1}, E: e + 1439}, api.Dya{M: []int{1}, E: e}), api.Dya{M: append(append([]int{1}, make([]int, 58)...), 1<<23), E: e}, "far apart", e)
	}
	half := value(filled(30, top))
	alike(t, Mul(api.Dya{M: filled(30, top), E: 3000}, api.Dya{Neg: true, M: filled(30, top), E: 3000}), api.Dya{Neg: true, M: natural(half.Mul(half, half)), E: 6000}, "mul, halves")
	alike(t, Mul(api.Dya{M: []int{1}, E: 6000}, api.Dya{M: []int{1}, E: -6000}), Of(1), "mul, powers")
}

// TestBeyond holds sums and products of more than 60 limbs: transforms by their sums (layer 11) make such ones on the way.
func TestBeyond(t *testing.T) {
	all := some(60, 1100)
	for _, a := range all {
		for _, b := range all {
			x, y := whole(a), whole(b)
			alike(t, Add(a, b), form(new(big.Int).Add(x, y), scale), "add", a, b)
			product := Mul(a, b)
			alike(t, product, form(new(big.Int).Mul(x, y), 2*scale), "mul", a, b)
			if c := Cmp(product, a); c != whole(product).Cmp(x) {
				t.Error("cmp", a, b, c)
			}
		}
	}
}

func TestCmp(t *testing.T) {
	for _, far := range []int{30, 1440, 6000} {
		all := some(60, far)
		for _, a := range all {
			for _, b := range all {
				if got := Cmp(a, b); got != whole(a).Cmp(whole(b)) {
					t.Error(a, b, got)
				}
			}
		}
	}
}

// TestCmpNear has numbers of one height, of powers of two that are as far apart as they may be then.
func TestCmpNear(t *testing.T) {
	long, short := api.Dya{M: ends(60), E: 0}, api.Dya{M: []int{1}, E: 59 * 24}
	if Cmp(long, short) != 1 || Cmp(short, long) != -1 || Cmp(Flip(long), Flip(short)) != -1 || Cmp(Flip(short), Flip(long)) != 1 {
		t.Error("one bit more")
	}
	full, above := api.Dya{M: filled(60, top), E: 0}, api.Dya{M: []int{1}, E: 1440}
	if Cmp(full, above) != -1 || Cmp(above, full) != 1 || Cmp(Flip(full), Flip(above)) != 1 {
		t.Error("one bit less")
	}
	if Cmp(api.Dya{M: filled(60, top), E: -6000}, api.Dya{M: []int{1}, E: 6000}) != -1 || Cmp(api.Dya{Neg: true, M: []int{1}, E: 6000}, api.Dya{Neg: true, M: []int{1}, E: -6000}) != -1 {
		t.Error("far apart")
	}
}
