package ivl

import (
	"math"
	"math/big"
	"math/rand"
	"slices"
	"testing"

	"overtone/api"
	"overtone/dya"
)

const (
	top   = 1<<24 - 1
	scale = 12000 + 24*120 // times two to that, every number of these tests is whole
)

// value is that of a natural, by the library's own.
func value(m []int) *big.Int {
	n := new(big.Int)
	for i := len(m) - 1; i >= 0; i-- {
		n.Lsh(n, 24).Add(n, big.NewInt(int64(m[i])))
	}
	return n
}

// natural is the row of limbs of a value.
func natural(n *big.Int) []int {
	var m []int
	base := big.NewInt(1 << 24)
	for rest := new(big.Int).Abs(n); rest.Sign() > 0; {
		limb := new(big.Int)
		rest.DivMod(rest, base, limb)
		m = append(m, int(limb.Int64()))
	}
	return m
}

// whole is a number times 2^scale.
func whole(d api.Dya) *big.Int {
	n := new(big.Int).Lsh(value(d.M), uint(d.E+scale))
	if d.Neg {
		n.Neg(n)
	}
	return n
}

// form is the one form of a value over 2^down.
func form(n *big.Int, down int) api.Dya {
	if n.Sign() == 0 {
		return api.Dya{}
	}
	low := n.TrailingZeroBits()
	return api.Dya{Neg: n.Sign() < 0, M: natural(new(big.Int).Rsh(new(big.Int).Abs(n), low)), E: int(low) - down}
}

// num is the number i times 2^e.
func num(i, e int) api.Dya { return form(big.NewInt(int64(i)), -e) }

// from is the enclosure from one whole number to another one.
func from(a, b int) api.Ivl { return api.Ivl{Lo: num(a, 0), Hi: num(b, 0)} }

// sameNumber tells whether numbers are alike.
func sameNumber(a, b api.Dya) bool { return a.Neg == b.Neg && a.E == b.E && slices.Equal(a.M, b.M) }

// same tells whether enclosures are alike.
func same(a, b api.Ivl) bool { return sameNumber(a.Lo, b.Lo) && sameNumber(a.Hi, b.Hi) }

// alike fails unless got is what is wanted.
func alike(t *testing.T, got, want api.Ivl, what ...any) {
	t.Helper()
	if !same(got, want) {
		t.Errorf("%v: got %v, not %v", what, got, want)
	}
}

// filled is a row of n limbs that are all alike.
func filled(n, limb int) []int { return slices.Repeat([]int{limb}, n) }

// ends is a row of n limbs, 1 at both ends, noughts between.
func ends(n int) []int {
	m := make([]int, n)
	m[0], m[n-1] = 1, 1
	return m
}

// numbers is right numbers of at most n limbs, of powers of two from -far to far, in order: edges, and some that are drawn from a fixed beginning; each with its opposite, and 0.
func numbers(n, far int) []api.Dya {
	rows := [][]int{{1}, {3}, {5}, {top}, {top, top}, filled(n, top), ends(n)}
	draw := rand.New(rand.NewSource(5))
	for _, many := range []int{1, 2, n / 2, n} {
		m := make([]int, many)
		for i := range m {
			m[i] = draw.Intn(top + 1)
		}
		m[0] |= 1
		m[many-1] |= 1 << draw.Intn(24)
		rows = append(rows, m)
	}
	all := []api.Dya{{}}
	for i, m := range rows {
		for _, e := range []int{-far, -1, far, -far + 1, 0, draw.Intn(2*far+1) - far}[i%2*3 : i%2*3+3] {
			all = append(all, api.Dya{M: m, E: e}, api.Dya{Neg: true, M: m, E: e})
		}
	}
	slices.SortFunc(all, func(a, b api.Dya) int { return whole(a).Cmp(whole(b)) })
	return all
}

// some is enclosures of such numbers: points, of neighbours, and of some that are far apart.
func some(n, far int) []api.Ivl {
	var all []api.Ivl
	row := numbers(n, far)
	for i, lo := range row {
		for _, step := range []int{0, 1, 7, 19, 40} {
			if i+step < len(row) {
				all = append(all, api.Ivl{Lo: lo, Hi: row[i+step]})
			}
		}
	}
	return all
}

// TestSome holds that what the tests are made of is right, and of all signs.
func TestSome(t *testing.T) {
	signs := map[[2]int]int{}
	for _, i := range some(60, 6000) {
		if !Right(i) {
			t.Error(i)
		}
		signs[[2]int{whole(i.Lo).Sign(), whole(i.Hi).Sign()}]++
	}
	if len(signs) != 6 {
		t.Error(signs)
	}
}

func TestRight(t *testing.T) {
	one, least, most := num(1, 0), num(1, -6000), api.Dya{M: filled(60, top), E: 6000}
	right := map[string]api.Ivl{
		"zero": {}, "0, empty": {Lo: api.Dya{M: []int{}}}, "a point": from(1, 1), "below 0": from(-3, -2), "around 0": from(-3, 2), "from 0": from(0, 2), "up to 0": from(-2, 0),
		"all": {Lo: dya.Flip(most), Hi: most}, "the longest, alone": {Lo: most, Hi: most}, "the least": {Lo: dya.Flip(least), Hi: least}, "far apart": {Lo: least, Hi: most},
	}
	for what, i := range right {
		if !Right(i) {
			t.Errorf("%s: not right", what)
		}
	}
	wrong := map[string]api.Ivl{
		"out of order": from(2, 1), "out of order, below 0": from(-1, -2), "out of order, around 0": from(1, -1), "just out of order": {Lo: least, Hi: api.Dya{}}, "far out of order": {Lo: most, Hi: least},
		"lo with a power of 0": {Lo: api.Dya{E: 1}, Hi: one}, "hi with a power of 0": {Hi: api.Dya{E: 1}}, "lo 0 below 0": {Lo: api.Dya{Neg: true}, Hi: one}, "hi 0 below 0": {Hi: api.Dya{Neg: true}},
		"lo even": {Lo: api.Dya{M: []int{2}}, Hi: num(4, 0)}, "hi even": {Lo: one, Hi: api.Dya{M: []int{2}}}, "both even": {Lo: api.Dya{M: []int{2}}, Hi: api.Dya{M: []int{2}}},
		"lo no natural": {Lo: api.Dya{M: []int{1, 0}}, Hi: num(4, 0)}, "hi no natural": {Lo: one, Hi: api.Dya{M: []int{-1}}}, "hi with too great a limb": {Lo: one, Hi: api.Dya{M: []int{1<<24 + 1}}},
		"lo too long": {Lo: api.Dya{Neg: true, M: ends(61)}, Hi: one}, "hi too long": {Lo: one, Hi: api.Dya{M: filled(61, top)}},
		"lo of too small a power": {Lo: num(1, -6001), Hi: one}, "hi of too great a power": {Lo: one, Hi: num(1, 6001)}, "hi of the greatest": {Hi: api.Dya{M: []int{1}, E: math.MaxInt}}, "lo of the greatest": {Lo: api.Dya{Neg: true, M: []int{1}, E: math.MaxInt}},
	}
	for what, i := range wrong {
		if Right(i) {
			t.Errorf("%s: right", what)
		}
	}
}

func TestPoint(t *testing.T) {
	for _, d := range numbers(60, 6000) {
		alike(t, Point(d), api.Ivl{Lo: d, Hi: d}, d)
	}
	alike(t, Point(api.Dya{M: []int{}}), api.Ivl{}, "0, empty")
}

func TestHas(t *testing.T) {
	for _, far := range []int{30, 6000} {
		row := numbers(60, far)
		for _, i := range some(60, far) {
			for _, d := range row {
				want := whole(i.Lo).Cmp(whole(d)) <= 0 && whole(d).Cmp(whole(i.Hi)) <= 0
				if got := Has(i, d); got != want {
					t.Fatal(i, d, got)
				}
			}
		}
	}
	near := num(1, -6000)
	for what, got := range map[string]bool{"lo": Has(from(1, 3), num(1, 0)), "hi": Has(from(1, 3), num(3, 0)), "between": Has(from(1, 3), num(5, -1)), "a point": Has(from(1, 1), num(1, 0)), "0": Has(from(-1, 1), api.Dya{}), "0, zero": Has(api.Ivl{}, api.Dya{})} {
		if !got {
			t.Error(what, "is not in")
		}
	}
	for what, got := range map[string]bool{"under lo": Has(from(1, 3), num(1<<60-1, -60)), "over hi": Has(from(1, 3), num(3<<60+1, -60)), "the opposite": Has(from(1, 3), num(-2, 0)), "just over 0": Has(from(-1, 0), near), "just under 0": Has(from(0, 1), dya.Flip(near))} {
		if got {
			t.Error(what, "is in")
		}
	}
}

func TestInside(t *testing.T) {
	all := some(3, 20)
	for _, a := range all {
		for _, b := range all {
			want := whole(b.Lo).Cmp(whole(a.Lo)) <= 0 && whole(a.Hi).Cmp(whole(b.Hi)) <= 0
			if got := Inside(a, b); got != want {
				t.Fatal(a, b, got)
			}
		}
	}
	for _, c := range []struct {
		a, b api.Ivl
		want bool
	}{
		{from(1, 3), from(1, 3), true}, {from(2, 2), from(1, 3), true}, {from(1, 1), from(1, 3), true}, {from(3, 3), from(1, 3), true}, {api.Ivl{}, from(-1, 1), true}, {api.Ivl{}, api.Ivl{}, true},
		{from(0, 3), from(1, 3), false}, {from(1, 4), from(1, 3), false}, {from(0, 4), from(1, 3), false}, {from(4, 5), from(1, 3), false}, {from(-3, -1), from(1, 3), false}, {from(0, 1), api.Ivl{}, false},
	} {
		if got := Inside(c.a, c.b); got != c.want {
			t.Error(c.a, c.b, got)
		}
	}
}

func TestWide(t *testing.T) {
	for _, i := range some(20, 300) {
		want := form(new(big.Int).Sub(whole(i.Hi), whole(i.Lo)), scale)
		if got := Wide(i); !sameNumber(got, want) {
			t.Error(i, got)
		}
	}
	for _, d := range numbers(60, 6000) {
		if got := Wide(api.Ivl{Lo: d, Hi: d}); !sameNumber(got, api.Dya{}) {
			t.Error("a point", d, got)
		}
	}
	full := api.Dya{M: filled(60, top), E: -6000}
	if got := Wide(api.Ivl{Lo: dya.Flip(full), Hi: full}); !sameNumber(got, api.Dya{M: filled(60, top), E: -5999}) {
		t.Error("the longest", got)
	}
}

func TestFlipAndShift(t *testing.T) {
	for _, i := range some(60, 2900) {
		alike(t, Flip(i), api.Ivl{Lo: form(new(big.Int).Neg(whole(i.Hi)), scale), Hi: form(new(big.Int).Neg(whole(i.Lo)), scale)}, "flip", i)
		alike(t, Flip(Flip(i)), i, "twice", i)
		for _, k := range []int{-3000, -25, -1, 0, 1, 24, 3000} {
			alike(t, Shift(i, k), api.Ivl{Lo: form(whole(i.Lo), scale-k), Hi: form(whole(i.Hi), scale-k)}, "shift", i, k)
		}
	}
	for _, k := range []int{math.MinInt, -6001, 6001, math.MaxInt} {
		alike(t, Shift(api.Ivl{}, k), api.Ivl{}, "0", k)
	}
	alike(t, Shift(api.Ivl{Lo: num(-3, -6000), Hi: num(5, -6000)}, 12000), api.Ivl{Lo: num(-3, 6000), Hi: num(5, 6000)}, "all the way up")
	alike(t, Shift(api.Ivl{Lo: num(-3, 6000), Hi: num(5, 6000)}, -12000), api.Ivl{Lo: num(-3, -6000), Hi: num(5, -6000)}, "all the way down")
}

// leastOf is the least enclosure of values over 2^down.
func leastOf(down int, values ...*big.Int) api.Ivl {
	compare := func(a, b *big.Int) int { return a.Cmp(b) }
	return api.Ivl{Lo: form(slices.MinFunc(values, compare), down), Hi: form(slices.MaxFunc(values, compare), down)}
}

func TestSumsAndProducts(t *testing.T) {
	all := some(20, 300)
	for k, a := range all {
		for _, b := range all[k%3:] {
			al, ah, bl, bh := whole(a.Lo), whole(a.Hi), whole(b.Lo), whole(b.Hi)
			sum, product := new(big.Int).Add, func(x, y *big.Int) *big.Int { return new(big.Int).Mul(x, y) }
			alike(t, Add(a, b), api.Ivl{Lo: form(sum(al, bl), scale), Hi: form(sum(ah, bh), scale)}, "add", a, b)
			alike(t, Mul(a, b), leastOf(2*scale, product(al, bl), product(al, bh), product(ah, bl), product(ah, bh)), "mul", a, b)
			if t.Failed() {
				return
			}
		}
	}
}

// TestSmall tries every pair of whole numbers of small enclosures: what comes out holds all of them, and ends at one of them.
func TestSmall(t *testing.T) {
	const far = 4
	for al := -far; al <= far; al++ {
		for ah := al; ah <= far; ah++ {
			for bl := -far; bl <= far; bl++ {
				for bh := bl; bh <= far; bh++ {
					least, most, low, high := math.MaxInt, math.MinInt, math.MaxInt, math.MinInt
					for x := al; x <= ah; x++ {
						for y := bl; y <= bh; y++ {
							least, most = min(least, x+y), max(most, x+y)
							low, high = min(low, x*y), max(high, x*y)
						}
					}
					alike(t, Add(from(al, ah), from(bl, bh)), from(least, most), "add", al, ah, bl, bh)
					alike(t, Mul(from(al, ah), from(bl, bh)), from(low, high), "mul", al, ah, bl, bh)
				}
			}
		}
	}
}

// TestProductEdges goes to the limits: what must be right is what comes out, which corners that are no ends need not be.
func TestProductEdges(t *testing.T) {
	least, most := num(1, -6000), num(1, 6000)
	alike(t, Mul(api.Ivl{Lo: least, Hi: most}, api.Ivl{Lo: least, Hi: least}), api.Ivl{Lo: num(1, -12000), Hi: num(1, 0)}, "far apart")
	tiny := api.Ivl{Lo: dya.Flip(least), Hi: num(1, 0)}
	alike(t, Mul(tiny, tiny), api.Ivl{Lo: dya.Flip(least), Hi: num(1, 0)}, "a corner of too small a power")
	long := api.Ivl{Lo: num(-1, 1000), Hi: api.Dya{M: filled(40, top), E: -960}}
	got := Mul(long, long)
	alike(t, got, api.Ivl{Lo: api.Dya{Neg: true, M: filled(40, top), E: 40}, Hi: num(1, 2000)}, "a corner too long")
	if !Right(got) {
		t.Error("not right", got)
	}
	half := api.Dya{M: filled(30, top), E: 3000}
	square := value(half.M)
	full := form(square.Mul(square, square), -6000)
	alike(t, Mul(Point(half), Point(dya.Flip(half))), Point(dya.Flip(full)), "the longest")
	for _, d := range numbers(60, 6000) {
		alike(t, Mul(Point(d), api.Ivl{}), api.Ivl{}, "times 0", d)
		alike(t, Mul(Point(d), from(1, 1)), Point(d), "times 1", d)
		alike(t, Mul(from(-1, -1), Point(d)), Point(dya.Flip(d)), "times -1", d)
		alike(t, Add(Point(d), api.Ivl{}), Point(d), "and 0", d)
	}
}

// TestBeyond holds sums and products of more than 60 limbs: transforms by their sums (layer 11) make such ones on the way.
func TestBeyond(t *testing.T) {
	a := api.Ivl{Lo: api.Dya{Neg: true, M: filled(60, top), E: -1100}, Hi: num(3, -1400)}
	b := api.Ivl{Lo: num(5, 1000), Hi: api.Dya{M: ends(60), E: 1000}}
	al, bh, ah := whole(a.Lo), whole(b.Hi), whole(a.Hi)
	alike(t, Mul(a, b), api.Ivl{Lo: form(new(big.Int).Mul(al, bh), 2*scale), Hi: form(new(big.Int).Mul(ah, bh), 2*scale)}, "mul")
	alike(t, Add(a, b), api.Ivl{Lo: form(new(big.Int).Add(al, whole(b.Lo)), scale), Hi: form(new(big.Int).Add(ah, bh), scale)}, "add")
}

// cutByHand is the whole multiple of the step between numbers of n bits that is at most x, or, if up, at least x.
func cutByHand(x *big.Int, n int, up bool) *big.Int {
	many := x.BitLen() - n
	if many <= 0 {
		return x
	}
	if up {
		return new(big.Int).Neg(cutByHand(new(big.Int).Neg(x), n, false))
	}
	step := new(big.Int).Lsh(big.NewInt(1), uint(many))
	return new(big.Int).Mul(new(big.Int).Div(x, step), step) // downwards, of values below 0, too
}

func TestCut(t *testing.T) {
	for _, i := range some(60, 4000) {
		for _, n := range []int{1, 2, 3, 24, 25, 53, 400, 1439, 1440, 6000, math.MaxInt} {
			want := api.Ivl{Lo: form(cutByHand(whole(i.Lo), n, false), scale), Hi: form(cutByHand(whole(i.Hi), n, true), scale)}
			alike(t, Cut(i, n), want, "cut", i, n)
			if !same(Cut(i, n), api.Ivl{Lo: dya.Cut(i.Lo, n, false), Hi: dya.Cut(i.Hi, n, true)}) {
				t.Error("not as layer 2", i, n)
			}
		}
	}
	alike(t, Cut(from(-13, 13), 3), from(-14, 14), "outwards")
	alike(t, Cut(from(5, 5), 2), from(4, 6), "a point")
	alike(t, Cut(from(-15, -9), 3), from(-16, -8), "below 0")
}
