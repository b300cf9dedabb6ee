package ivl

import (
	"math/big"
	"testing"

	"overtone/api"
	"overtone/dya"
)

// under is the greatest number below x, a value above 0 of at most n bits, among those of at most n bits: all bits are moved up first, so that the step is whole.
func under(x *big.Int, n int) *big.Int {
	step := new(big.Int).Lsh(big.NewInt(1), uint(x.BitLen()-n))
	if x.TrailingZeroBits() == uint(x.BitLen()-1) {
		step.Rsh(step, 1) // below a power of two numbers lie twice as near
	}
	return new(big.Int).Sub(x, step)
}

// above is the least number above x, a value above 0 of at most n bits, among those of at most n bits.
func above(x *big.Int, n int) *big.Int {
	return new(big.Int).Add(x, new(big.Int).Lsh(big.NewInt(1), uint(x.BitLen()-n)))
}

// few tells whether a number is a natural below 2^n times a power of two.
func few(d api.Dya, n int) bool { return !d.Neg && value(d.M).BitLen() <= n }

// squared is -1, 0 or 1, as the square of a value x, over 2^scale, is below, equal to, or above d.
func squared(x *big.Int, d api.Dya) int {
	return new(big.Int).Mul(x, x).Cmp(new(big.Int).Lsh(whole(d), scale))
}

// rootHolds tells whether r is what Root must answer, by its words: few bits, squares on the right sides, and none nearer.
func rootHolds(i, r api.Ivl, n int) string {
	if !Right(r) || !few(r.Lo, n) || !few(r.Hi, n) {
		return "no natural of so few bits, times a power of two"
	}
	lo, hi := whole(r.Lo), whole(r.Hi)
	if squared(lo, i.Lo) > 0 || squared(hi, i.Hi) < 0 {
		return "a square is on the wrong side"
	}
	if lo.Sign() > 0 && squared(above(lo, n), i.Lo) <= 0 || lo.Sign() == 0 && len(i.Lo.M) > 0 {
		return "a greater one would do"
	}
	if hi.Sign() > 0 && squared(under(hi, n), i.Hi) >= 0 || hi.Sign() > 0 && len(i.Hi.M) == 0 {
		return "a lesser one would do"
	}
	return ""
}

func TestRoot(t *testing.T) {
	tried := 0
	for _, far := range []int{5, 6000} {
		for _, i := range some(60, far) {
			for _, n := range []int{1, 2, 3, 23, 24, 25, 53, 400, 719, 720, 721, 999, 1000} {
				r, is := Root(i, n)
				if i.Lo.Neg {
					if is || !same(r, api.Ivl{}) {
						t.Fatal("below 0", i, n, r, is)
					}
					continue
				}
				tried++
				if why := rootHolds(i, r, n); !is || why != "" {
					t.Fatal(why, i, n, r, is)
				}
			}
		}
	}
	if tried < 1000 {
		t.Error("only", tried)
	}
}

// TestRootPowers has every number of bits, and powers of two that are even and odd, of both signs.
func TestRootPowers(t *testing.T) {
	for n := 1; n <= 1000; n += 1 + n/20 {
		for _, e := range []int{-6000, -5999, -3, -2, -1, 0, 1, 2, 3, 5999, 6000} {
			for _, m := range []int{1, 3, 9, 15, 25, top, 1<<40 - 1, 1<<40 + 1} {
				i := api.Ivl{Lo: num(m, e), Hi: num(m, e)}
				r, is := Root(i, n)
				if why := rootHolds(i, r, n); !is || why != "" {
					t.Fatal(why, i, n, r, is)
				}
			}
		}
	}
}

// TestRootSmall takes, of all numbers that may come out, the greatest and the least that will do.
func TestRootSmall(t *testing.T) {
	for n := 1; n <= 4; n++ {
		for i := 1; i <= 130; i++ {
			lo, hi := 0, 1<<20
			for m := 1; m < 1<<n; m++ {
				for c := m; c <= 1<<12; c *= 2 { // numbers are told times 2^6, squares times 2^12
					if c*c <= i<<12 {
						lo = max(lo, c)
					}
					if c*c >= i<<12 {
						hi = min(hi, c)
					}
				}
			}
			r, is := Root(from(i, i), n)
			alike(t, r, api.Ivl{Lo: num(lo, -6), Hi: num(hi, -6)}, "root", i, n, is)
			parts, is := Root(api.Ivl{Lo: num(i, -10), Hi: num(i, -10)}, n)
			alike(t, parts, api.Ivl{Lo: num(lo, -11), Hi: num(hi, -11)}, "root of parts", i, n, is)
		}
	}
}

// TestRootExact: what is a square is taken back to what it is the square of, if that has so few bits.
func TestRootExact(t *testing.T) {
	for _, d := range numbers(30, 2900) {
		if d.Neg {
			continue
		}
		long := value(d.M).BitLen()
		square := api.Ivl{Lo: form(new(big.Int).Mul(whole(d), whole(d)), 2*scale)}
		square.Hi = square.Lo
		for _, n := range []int{long, long + 1, 1000} {
			if n < 1 {
				continue
			}
			r, is := Root(square, n)
			alike(t, r, api.Ivl{Lo: d, Hi: d}, "exact", d, n, is)
		}
		if long < 2 {
			continue
		}
		r, is := Root(square, long-1)
		if !is || !sameNumber(r.Lo, dya.Cut(d, long-1, false)) || !sameNumber(r.Hi, dya.Cut(d, long-1, true)) {
			t.Error("a bit too few", d, r, is)
		}
	}
}

func TestRootEdges(t *testing.T) {
	least := num(1, -6000)
	for _, c := range []struct {
		what string
		i    api.Ivl
		n    int
		want api.Ivl
	}{
		{"the chapter's example", from(2, 2), 2, api.Ivl{Lo: num(1, 0), Hi: num(3, -1)}},
		{"0", api.Ivl{}, 1, api.Ivl{}},
		{"0, most bits", api.Ivl{}, 1000, api.Ivl{}},
		{"0, empty", api.Ivl{Lo: api.Dya{M: []int{}}, Hi: api.Dya{M: []int{}}}, 7, api.Ivl{}},
		{"from 0", from(0, 1), 1, from(0, 1)},
		{"from 0, up", from(0, 3), 1, from(0, 2)},
		{"squares", from(4, 9), 5, from(2, 3)},
		{"squares of too many bits", from(25, 49), 2, from(4, 8)},
		{"one bit", from(10, 10), 1, from(2, 4)},
		{"a bit is carried", from(63, 63), 3, from(7, 8)},
		{"all bits are carried", api.Ivl{Lo: num(1<<62-1, 0), Hi: num(1<<62-1, 0)}, 31, api.Ivl{Lo: num(1<<31-1, 0), Hi: num(1, 31)}},
		{"half a power", api.Ivl{Lo: num(1, -1), Hi: num(1, -1)}, 1, api.Ivl{Lo: num(1, -1), Hi: num(1, 0)}},
		{"the least", api.Ivl{Lo: least, Hi: least}, 1000, api.Ivl{Lo: num(1, -3000), Hi: num(1, -3000)}},
		{"the greatest power", api.Ivl{Hi: num(1, 6000)}, 1000, api.Ivl{Hi: num(1, 3000)}},
		{"the longest, to 1", api.Ivl{Hi: api.Dya{M: filled(60, top), E: 6000}}, 1, api.Ivl{Hi: num(1, 3720)}},
		{"the longest, down", api.Ivl{Lo: api.Dya{M: filled(60, top), E: 6000}, Hi: api.Dya{M: filled(60, top), E: 6000}}, 720, api.Ivl{Lo: api.Dya{M: filled(30, top), E: 3000}, Hi: num(1, 3720)}},
	} {
		r, is := Root(c.i, c.n)
		alike(t, r, c.want, c.what)
		if !is {
			t.Error(c.what, "false")
		}
	}
	for what, i := range map[string]api.Ivl{"below 0": from(-2, -1), "around 0": from(-1, 4), "up to 0": from(-1, 0), "just below 0": {Lo: dya.Flip(least), Hi: num(4, 0)}, "the longest": {Lo: api.Dya{Neg: true, M: filled(60, top), E: 6000}, Hi: num(4, 0)}} {
		for _, n := range []int{1, 5, 1000} {
			if r, is := Root(i, n); is || !same(r, api.Ivl{}) {
				t.Error(what, n, r, is)
			}
		}
	}
}

// TestRootNearSquares has numbers that are off from a square by the least there is, at one end of it or the other one.
func TestRootNearSquares(t *testing.T) {
	square := new(big.Int).Lsh(big.NewInt(9), 1400)
	for _, off := range []int64{-1, 1} {
		d := form(new(big.Int).Add(square, big.NewInt(off)), 1400)
		for _, n := range []int{1, 2, 3, 100, 698, 699, 700, 701, 702, 1000} {
			i := api.Ivl{Lo: d, Hi: d}
			r, is := Root(i, n)
			if why := rootHolds(i, r, n); !is || why != "" {
				t.Fatal(why, off, n, r, is)
			}
			if n >= 2 && (off < 0) != sameNumber(r.Hi, num(3, 0)) || n >= 2 && (off > 0) != sameNumber(r.Lo, num(3, 0)) {
				t.Error("not next to 3", off, n, r)
			}
		}
	}
}
