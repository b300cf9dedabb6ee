package dya

import (
	"math"
	"math/big"
	"testing"

	"overtone/api"
)

// few tells whether a number is a natural below 2^n, or its opposite, times a power of two.
func few(d api.Dya, n int) bool { return value(d.M).BitLen() <= n }

// cutByHand is what Cut must answer: the whole multiple of the step between numbers of n bits, on the side that is asked for.
func cutByHand(d api.Dya, n int, up bool) api.Dya {
	x := whole(d)
	many := x.BitLen() - n
	if many <= 0 {
		return form(x, scale)
	}
	if up {
		x.Neg(x)
	}
	step := new(big.Int).Lsh(big.NewInt(1), uint(many))
	x.Div(x, step).Mul(x, step) // downwards, of values below 0, too
	if up {
		x.Neg(x)
	}
	return form(x, scale)
}

func TestCut(t *testing.T) {
	for _, d := range some(60, 4000) {
		long := value(d.M).BitLen()
		for _, n := range []int{1, 2, 3, 23, 24, 25, 53, 400, long - 1, long, long + 1, 1440, 1441, 6000, math.MaxInt} {
			if n < 1 {
				continue
			}
			for _, up := range []bool{false, true} {
				alike(t, Cut(d, n, up), cutByHand(d, n, up), "cut", d, n, up)
			}
		}
	}
}

// TestCutSmall tries every number of a few bits, and takes the nearest of all that may come out.
func TestCutSmall(t *testing.T) {
	for n := 1; n <= 4; n++ {
		for i := -130; i <= 130; i++ {
			down, up := -256, 256
			for c := -256; c <= 256; c++ {
				if !few(form(big.NewInt(int64(c)), 0), n) {
					continue
				}
				if c <= i {
					down = max(down, c)
				}
				if c >= i {
					up = min(up, c)
				}
			}
			alike(t, Cut(Of(i), n, false), Of(down), "down", i, n)
			alike(t, Cut(Of(i), n, true), Of(up), "up", i, n)
			alike(t, Cut(Shift(Of(i), -9), n, false), Shift(Of(down), -9), "down, parts", i, n)
		}
	}
}

func TestCutEdges(t *testing.T) {
	alike(t, Cut(Of(5), 2, true), Of(6), "the chapter's example")
	alike(t, Cut(Of(15), 3, true), Of(16), "a bit more")
	alike(t, Cut(Of(-15), 3, false), Of(-16), "a bit more, below 0")
	alike(t, Cut(Of(-15), 3, true), Of(-14), "towards 0")
	full := api.Dya{M: filled(60, top), E: -6000}
	alike(t, Cut(full, 1, true), api.Dya{M: []int{1}, E: -4560}, "all bits are carried")
	alike(t, Cut(full, 1439, true), api.Dya{M: []int{1}, E: -4560}, "one bit is carried through all")
	alike(t, Cut(full, 1, false), api.Dya{M: []int{1}, E: -4561}, "one bit is left")
	alike(t, Cut(Flip(full), 1, false), api.Dya{Neg: true, M: []int{1}, E: -4560}, "below 0")
	alike(t, Cut(api.Dya{M: ends(60), E: 0}, 1416, false), api.Dya{M: []int{1}, E: 1416}, "noughts are left out")
	for _, n := range []int{1, 2, 1440, math.MaxInt} {
		alike(t, Cut(api.Dya{}, n, false), api.Dya{}, "0 down", n)
		alike(t, Cut(api.Dya{}, n, true), api.Dya{}, "0 up", n)
		alike(t, Cut(api.Dya{M: []int{1}, E: 6000}, n, true), api.Dya{M: []int{1}, E: 6000}, "the greatest power", n)
		alike(t, Cut(api.Dya{Neg: true, M: []int{1}, E: -6000}, n, true), api.Dya{Neg: true, M: []int{1}, E: -6000}, "the least power", n)
	}
}

// TestCutBounds is P2.3.
func TestCutBounds(t *testing.T) {
	for _, d := range some(60, 4000) {
		long := value(d.M).BitLen()
		for n := 1; n <= 1450; n += 1 + n/5 {
			down, up := Cut(d, n, false), Cut(d, n, true)
			if !Right(down) || !Right(up) || !few(down, n) || !few(up, n) {
				t.Fatal("of other bits", d, n)
			}
			if few(d, n) && !(same(down, d) && same(up, d)) {
				t.Fatal("not itself", d, n)
			}
			x := whole(d)
			under, over := new(big.Int).Sub(x, whole(down)), new(big.Int).Sub(whole(up), x)
			if under.Sign() < 0 || over.Sign() < 0 {
				t.Fatal("on the wrong side", d, n)
			}
			if len(d.M) == 0 {
				continue
			}
			// The bound and what it holds are taken times 2^(n-1): its highest bit alone is whole.
			high := new(big.Int).Lsh(big.NewInt(1), uint(long-1+d.E+scale))
			if under.Lsh(under, uint(n-1)).Cmp(high) >= 0 || over.Lsh(over, uint(n-1)).Cmp(high) >= 0 {
				t.Fatal("too far", d, n)
			}
		}
	}
}
