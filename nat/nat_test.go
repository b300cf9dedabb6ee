package nat

import (
	"math"
	"math/big"
	"math/rand"
	"slices"
	"testing"

	"overtone/api"
)

// number is the value of a natural, by the library's own.
func number(a []int) *big.Int {
	n := new(big.Int)
	for i := len(a) - 1; i >= 0; i-- {
		n.Lsh(n, 24).Add(n, big.NewInt(int64(a[i])))
	}
	return n
}

// natural is the row of limbs of a value.
func natural(n *big.Int) []int {
	var a []int
	base := big.NewInt(1 << 24)
	for rest := new(big.Int).Set(n); rest.Sign() > 0; {
		limb := new(big.Int)
		rest.DivMod(rest, base, limb)
		a = append(a, int(limb.Int64()))
	}
	return a
}

// filled is a row of n limbs that are all alike.
func filled(n, limb int) []int { return slices.Repeat([]int{limb}, n) }

// power is 2^k.
func power(k int) []int { return natural(new(big.Int).Lsh(big.NewInt(1), uint(k))) }

// some is naturals of at most n limbs: edges, and some that are drawn from a fixed beginning.
func some(n int) [][]int {
	all := [][]int{
		nil, {}, {1}, {2}, {3}, {top}, {0, 1}, {1, 1}, {top, top}, {0, 0, 1},
		power(61), power(62), natural(big.NewInt(1<<62 - 1)), power(100),
		filled(n, top), append(make([]int, n-1), 1), append(make([]int, n-1), top), append(filled(n-1, top), 1),
	}
	draw := rand.New(rand.NewSource(1))
	for _, many := range []int{1, 2, 3, 4, 5, 7, 8, 20, n / 2, n} {
		a := make([]int, many)
		for i := range a {
			a[i] = draw.Intn(top + 1)
		}
		a[many-1] = 1 + draw.Intn(top)
		all = append(all, a)
		sparse := make([]int, many)
		sparse[draw.Intn(many)] = 1 + draw.Intn(top)
		sparse[many-1] = 1 + draw.Intn(3)
		all = append(all, sparse)
	}
	return slices.DeleteFunc(all, func(a []int) bool { return len(a) > n })
}

// alike fails unless got is the natural of that value.
func alike(t *testing.T, got []int, want *big.Int, what ...any) {
	t.Helper()
	if !slices.Equal(got, natural(want)) {
		t.Errorf("%v: got %v, not %v", what, got, natural(want))
	}
}

func TestRight(t *testing.T) {
	right := map[string][]int{
		"nil": nil, "empty": {}, "one": {1}, "greatest limb": {top}, "a nought ahead": {0, 1},
		"many noughts ahead": append(make([]int, 299), 1), "longest": filled(300, top),
	}
	for what, a := range right {
		if !Right(a) {
			t.Errorf("%s: not right", what)
		}
	}
	wrong := map[string][]int{
		"last limb 0": {0}, "last of two 0": {1, 0}, "noughts alone": {0, 0, 0},
		"below 0": {-1}, "first below 0": {-1, 1}, "middle below 0": {1, -1, 1}, "last below 0": {1, -1}, "far below 0": {math.MinInt},
		"too great": {1 << 24}, "first too great": {1 << 24, 1}, "middle too great": {1, 1 << 24, 1}, "last too great": {5, 1 << 24}, "far too great": {math.MaxInt},
		"too long": filled(301, 1), "too long, of noughts": make([]int, 301), "longest, last 0": append(filled(299, 1), 0),
	}
	for what, a := range wrong {
		if Right(a) {
			t.Errorf("%s: right", what)
		}
	}
}

func TestOf(t *testing.T) {
	for _, n := range []int{0, 1, 2, top, top + 1, 1<<48 - 1, 1 << 48, 1<<62 - 1, 1 << 62, 1<<62 + 3, math.MaxInt} {
		alike(t, Of(n), big.NewInt(int64(n)), n)
	}
	for _, n := range []int{-1, -5, -1 << 24, -1 << 48, math.MinInt} {
		if got := Of(n); len(got) != 0 {
			t.Error(n, got)
		}
	}
}

func TestInt(t *testing.T) {
	for _, n := range []int{0, 1, 2, top, top + 1, 1<<48 - 1, 1 << 48, 1 << 61, 1<<62 - 2, 1<<62 - 1} {
		if got, is := Int(natural(big.NewInt(int64(n)))); !is || got != n {
			t.Error(n, got, is)
		}
	}
	for _, a := range [][]int{power(62), natural(big.NewInt(1<<62 + 1)), power(63), power(64), filled(3, top), {0, 0, 0, 1}, filled(300, top)} {
		if got, is := Int(a); is || got != 0 {
			t.Error(a, got, is)
		}
	}
}

func TestSumsAndProducts(t *testing.T) {
	for _, a := range some(150) {
		for _, b := range some(150) {
			x, y := number(a), number(b)
			alike(t, Add(a, b), new(big.Int).Add(x, y), "add", a, b)
			alike(t, Mul(a, b), new(big.Int).Mul(x, y), "mul", a, b)
			if got := Cmp(a, b); got != x.Cmp(y) {
				t.Error("cmp", a, b, got)
			}
			got, is := Sub(a, b)
			if x.Cmp(y) < 0 {
				if is || len(got) != 0 {
					t.Error("sub", a, b, got, is)
				}
				continue
			}
			alike(t, got, new(big.Int).Sub(x, y), "sub", a, b)
			if !is {
				t.Error("sub", a, b)
			}
		}
	}
}

// TestLongest goes to answers of MaxLimbs limbs, by each call that makes longer ones.
func TestLongest(t *testing.T) {
	all := filled(api.MaxLimbs, top)
	alike(t, Add(all, nil), number(all), "add 0")
	alike(t, Add(filled(299, top), Of(1)), number(power(24*299)), "add, into one more limb")
	alike(t, Add(Shl(Of(1), 24*300-1), Shr(all, 1)), number(all), "add, halves")
	alike(t, Mul(all, Of(1)), number(all), "mul 1")
	half := number(filled(150, top))
	alike(t, Mul(filled(150, top), filled(150, top)), new(big.Int).Mul(half, half), "mul, halves")
	long := number(filled(299, top))
	alike(t, Mul(filled(299, top), Of(top)), new(big.Int).Mul(long, big.NewInt(top)), "mul, one limb")
	alike(t, Shl(Of(1), 24*300-1), number(power(24*300-1)), "shl")
	alike(t, Shr(all, 24*300-1), big.NewInt(1), "shr")
	if got, is := Sub(all, all); !is || len(got) != 0 {
		t.Error("sub", got, is)
	}
	if Len(all) != 7200 || Cmp(all, filled(299, top)) != 1 || Cmp(all, all) != 0 {
		t.Error("len, cmp")
	}
}

func TestLen(t *testing.T) {
	for _, a := range some(300) {
		if got := Len(a); got != number(a).BitLen() {
			t.Error(a, got)
		}
	}
	for k := range 100 {
		if Len(power(k)) != k+1 || Len(natural(new(big.Int).Sub(number(power(k)), big.NewInt(1)))) != k {
			t.Error(k)
		}
	}
}

func TestShifts(t *testing.T) {
	for _, a := range some(290) {
		x, n := number(a), Len(a)
		for _, k := range []int{0, 1, 2, 23, 24, 25, 47, 48, 49, 71, 72, 73, 200, 240} {
			alike(t, Shl(a, k), new(big.Int).Lsh(x, uint(k)), "shl", a, k)
			alike(t, Shr(a, k), new(big.Int).Rsh(x, uint(k)), "shr", a, k)
		}
		for _, k := range []int{n - 25, n - 24, n - 1, n, n + 1, n + 24, n + 25, 24 * len(a), 24*len(a) + 24} {
			alike(t, Shr(a, k), new(big.Int).Rsh(x, uint(max(k, 0))), "shr", a, k)
		}
		for _, k := range []int{1 << 31, 1 << 40, math.MaxInt - 1, math.MaxInt} {
			alike(t, Shr(a, k), new(big.Int), "shr", a, k)
		}
		for _, k := range []int{-1, -3, -23, -24, -25, -1 << 40, math.MinInt} {
			alike(t, Shl(a, k), x, "shl", a, k)
			alike(t, Shr(a, k), x, "shr", a, k)
		}
	}
	for _, k := range []int{1, 24, 24 * 300, 24 * 301, 1 << 31, 1 << 40, math.MaxInt} {
		if got := Shl(nil, k); len(got) != 0 {
			t.Error("0 up", k, got)
		}
	}
}

func TestRoot(t *testing.T) {
	one := big.NewInt(1)
	for n := range int64(5000) {
		alike(t, Root(natural(big.NewInt(n))), new(big.Int).Sqrt(big.NewInt(n)), n)
	}
	for _, a := range some(300) {
		alike(t, Root(a), new(big.Int).Sqrt(number(a)), a)
	}
	for _, a := range some(150) {
		root := number(a)
		square := new(big.Int).Mul(root, root)
		alike(t, Root(natural(square)), root, "square", a)
		if root.Sign() == 0 {
			continue
		}
		alike(t, Root(natural(new(big.Int).Sub(square, one))), new(big.Int).Sub(root, one), "one less", a)
		more := new(big.Int).Add(square, one)
		alike(t, Root(natural(more)), new(big.Int).Sqrt(more), "one more", a)
		most := new(big.Int).Add(square, new(big.Int).Lsh(root, 1))
		alike(t, Root(natural(most)), root, "the greatest of that root", a)
	}
	for k := 0; k < 24*300; k += 1 + k/100 {
		alike(t, Root(power(k)), new(big.Int).Sqrt(number(power(k))), "power", k)
	}
}

// TestRootGuess holds every guess on the way of a root against the limb that comes of it.
func TestRootGuess(t *testing.T) {
	for _, a := range some(300) {
		if len(a)%2 == 1 || len(a) == 0 || a[len(a)-1] < 1<<22 {
			continue
		}
		root, rest := firstLimb(a[len(a)-1]<<24 + a[len(a)-2])
		for i := len(a) - 4; i >= 0; i -= 2 {
			limb := guess(behind(rest, a[i+1]), Shl(root, 1))
			root, rest = nextLimb(root, rest, a[i+1], a[i])
			if over := limb - at(root, 0); over < 0 || over > 2 || limb > top {
				t.Error(a, i, over)
			}
		}
	}
}
