package ivl

import (
	"math"
	"math/big"
	"math/rand"
	"slices"
	"testing"

	"overtone/api"
	"overtone/dya"
)

// calls is every call that answers an enclosure, by its name.
func calls() map[string]func(a, b api.Ivl) api.Ivl {
	return map[string]func(a, b api.Ivl) api.Ivl{
		"Add":         Add,
		"Mul":         Mul,
		"Flip":        func(a, _ api.Ivl) api.Ivl { return Flip(a) },
		"Shift by 0":  func(a, _ api.Ivl) api.Ivl { return Shift(a, 0) },
		"Shift by 9":  func(a, _ api.Ivl) api.Ivl { return Shift(a, 9) },
		"Shift by -9": func(a, _ api.Ivl) api.Ivl { return Shift(a, -9) },
		"Cut to 1":    func(a, _ api.Ivl) api.Ivl { return Cut(a, 1) },
		"Cut to 5":    func(a, _ api.Ivl) api.Ivl { return Cut(a, 5) },
		"Cut to 30":   func(a, _ api.Ivl) api.Ivl { return Cut(a, 30) },
		"Cut to all":  func(a, _ api.Ivl) api.Ivl { return Cut(a, 1440) },
	}
}

// roots is calls of Root, by their names.
func roots() map[string]func(a, b api.Ivl) api.Ivl {
	all := map[string]func(a, b api.Ivl) api.Ivl{}
	for name, n := range map[string]int{"Root to 1": 1, "Root to 2": 2, "Root to 40": 40, "Root to 1000": 1000} {
		all[name] = func(a, _ api.Ivl) api.Ivl {
			r, _ := Root(a, n)
			return r
		}
	}
	return all
}

// within is some numbers of an enclosure: its ends, parts of the way between, 0, if it is in.
func within(i api.Ivl) []api.Dya {
	lo, wide := whole(i.Lo), new(big.Int).Sub(whole(i.Hi), whole(i.Lo))
	all := []api.Dya{i.Lo, i.Hi}
	for _, part := range []int64{1, 9, 32, 63} {
		way := new(big.Int).Mul(wide, big.NewInt(part))
		x := new(big.Int).Lsh(lo, 6)
		all = append(all, form(x.Add(x, way), scale+6))
	}
	if lo.Sign() <= 0 && whole(i.Hi).Sign() >= 0 {
		all = append(all, api.Dya{})
	}
	return all
}

// holder tells of values over 2^down, which is at least scale, whether they are in an enclosure.
func holder(i api.Ivl, down int) func(x *big.Int) bool {
	lo, hi := whole(i.Lo), whole(i.Hi)
	lo.Lsh(lo, uint(down-scale))
	hi.Lsh(hi, uint(down-scale))
	return func(x *big.Int) bool { return lo.Cmp(x) <= 0 && x.Cmp(hi) <= 0 }
}

// values is those of numbers, times 2^scale.
func values(all []api.Dya) []*big.Int {
	var row []*big.Int
	for _, d := range all {
		row = append(row, whole(d))
	}
	return row
}

// TestKept is P5.2: sums, products and opposites of what is in enclosures are in theirs.
func TestKept(t *testing.T) {
	all := some(5, 60)
	var held [][]*big.Int
	for _, i := range all {
		held = append(held, values(within(i)))
	}
	for k, a := range all {
		flipped, shifted, cut := holder(Flip(a), scale), holder(Shift(a, -7), scale+7), holder(Cut(a, 3), scale)
		for _, x := range held[k] {
			if !flipped(new(big.Int).Neg(x)) || !shifted(x) || !cut(x) {
				t.Fatal(a, x)
			}
		}
		for j := k % 7; j < len(all); j += 7 {
			b := all[j]
			sum, product := holder(Add(a, b), scale), holder(Mul(a, b), 2*scale)
			for _, x := range held[k] {
				for _, y := range held[j] {
					if !sum(new(big.Int).Add(x, y)) || !product(new(big.Int).Mul(x, y)) {
						t.Fatal(a, b, x, y)
					}
				}
			}
		}
	}
}

// TestRootsKept is P5.2 of roots: what is in an enclosure is the root of its square, and in the root of what holds squares.
func TestRootsKept(t *testing.T) {
	for _, i := range some(5, 60) {
		if i.Lo.Neg {
			continue
		}
		squares := Mul(i, i)
		for _, n := range []int{1, 2, 5, 53, 400} {
			r, is := Root(squares, n)
			if !is || !Inside(i, r) {
				t.Fatal("not inside", i, n, r, is)
			}
			in := holder(r, scale)
			for _, x := range values(within(i)) {
				if !in(x) {
					t.Fatal("not in", i, n, x)
				}
			}
		}
	}
}

// inner is an enclosure that lies in i, at one of its ends or at none.
func inner(i api.Ivl, draw *rand.Rand) api.Ivl {
	all := within(i)
	a, b := all[draw.Intn(len(all))], all[draw.Intn(len(all))]
	if whole(a).Cmp(whole(b)) > 0 {
		a, b = b, a
	}
	return api.Ivl{Lo: a, Hi: b}
}

// TestInOrder is P5.3: of enclosures that lie in others what is made lies in what is made of those.
func TestInOrder(t *testing.T) {
	draw := rand.New(rand.NewSource(53))
	all := some(5, 60)
	for name, call := range calls() {
		for _, a := range all {
			for range 20 {
				b := all[draw.Intn(len(all))]
				x, y := inner(a, draw), inner(b, draw)
				if !Inside(call(x, y), call(a, b)) {
					t.Fatal(name, a, b, x, y)
				}
			}
		}
	}
	for name, call := range roots() {
		for _, a := range all {
			if a.Lo.Neg {
				continue
			}
			for range 20 {
				if x := inner(a, draw); !Inside(call(x, x), call(a, a)) {
					t.Fatal(name, a, x)
				}
			}
		}
	}
}

// TestFewerBits holds that with more bits an enclosure lies in that with fewer.
func TestFewerBits(t *testing.T) {
	for _, i := range some(20, 300) {
		wide, wideIs := Root(i, 1)
		for n := 2; n <= 600; n += 1 + n/3 {
			if !Inside(Cut(i, n), Cut(i, n-1)) || !Inside(i, Cut(i, n)) {
				t.Fatal("cut", i, n)
			}
			r, is := Root(i, n)
			if is != wideIs || !Inside(r, wide) {
				t.Fatal("root", i, n)
			}
			wide = r
		}
	}
}

// TestAnswersAreRight holds that every answer is right: the ends in their one form, and in order.
func TestAnswersAreRight(t *testing.T) {
	all := some(20, 300)
	for name, call := range calls() {
		for k, a := range all {
			for _, b := range all[k%5:] {
				if got := call(a, b); !Right(got) {
					t.Fatal(name, a, b, got)
				}
			}
		}
	}
	for name, call := range roots() {
		for _, a := range some(60, 6000) {
			if got := call(a, a); !Right(got) {
				t.Fatal(name, a, got)
			}
		}
	}
	for _, i := range all {
		if got := Wide(i); !dya.Right(got) || dya.Sign(got) < 0 {
			t.Fatal("wide", i, got)
		}
	}
}

// roomy is an enclosure whose naturals have spare room behind them, that is marked; and all of that memory.
func roomy(i api.Ivl) (api.Ivl, [2][]int) {
	lo, hi := append(slices.Clone(i.Lo.M), 77, 77, 77), append(slices.Clone(i.Hi.M), 77, 77, 77)
	i.Lo.M, i.Hi.M = lo[:len(i.Lo.M)], hi[:len(i.Hi.M)]
	return i, [2][]int{lo, hi}
}

// copied is the same, in other memory.
func copied(i api.Ivl) api.Ivl {
	i.Lo.M, i.Hi.M = slices.Clone(i.Lo.M), slices.Clone(i.Hi.M)
	return i
}

// spoil writes over rows and their spare room.
func spoil(rows ...[]int) {
	for _, row := range rows {
		row = row[:cap(row)]
		for i := range row {
			row[i] = -9
		}
	}
}

// memory is every call that answers numbers, as one that answers an enclosure.
func memory() map[string]func(a, b api.Ivl) api.Ivl {
	all := calls()
	for name, call := range roots() {
		all[name] = call
	}
	all["Point"] = func(a, _ api.Ivl) api.Ivl { return Point(a.Lo) }
	all["Wide"] = func(a, _ api.Ivl) api.Ivl { return api.Ivl{Hi: Wide(a)} }
	return all
}

// TestNewMemory is P3: arguments and their spare room stay as they are, and share nothing with what comes out, nor do both ends of it.
func TestNewMemory(t *testing.T) {
	for name, call := range memory() {
		for _, a := range some(8, 100) {
			for _, b := range []api.Ivl{{}, from(1, 1), from(-40, 3), {Lo: num(-3, -60), Hi: api.Dya{M: []int{top, top, 3}, E: -60}}, a} {
				x, allX := roomy(a)
				y, allY := roomy(b)
				wasX, wasY := slices.Clone(allX[0]), slices.Clone(allY[1])
				got := call(x, y)
				was := copied(got)
				other := call(x, y)
				spoil(other.Lo.M)
				if !sameNumber(other.Hi, was.Hi) {
					t.Fatal(name, a, b, "both ends share memory")
				}
				spoil(other.Hi.M)
				if !same(x, a) || !same(y, b) || !slices.Equal(allX[0], wasX) || !slices.Equal(allY[1], wasY) {
					t.Fatal(name, a, b, "an argument was changed")
				}
				spoil(allX[:]...)
				spoil(allY[:]...)
				if !same(got, was) {
					t.Fatal(name, a, b, "an answer was changed")
				}
				if !same(call(a, b), was) {
					t.Fatal(name, a, b, "another answer")
				}
			}
		}
	}
}

// TestAsked holds that what only asks changes nothing, either.
func TestAsked(t *testing.T) {
	for _, i := range some(60, 6000) {
		x, all := roomy(i)
		was := [2][]int{slices.Clone(all[0]), slices.Clone(all[1])}
		Right(x)
		Has(x, x.Lo)
		Inside(x, x)
		Inside(x, from(1, 2))
		if !slices.Equal(all[0], was[0]) || !slices.Equal(all[1], was[1]) {
			t.Error(i)
		}
	}
}

// TestCornersEnd holds that the iterator stops when it is told to, and tells all four else.
func TestCornersEnd(t *testing.T) {
	for stop := 1; stop <= 4; stop++ {
		told := 0
		for range corners(from(-1, 2), from(3, 5)) {
			told++
			if told == stop {
				break
			}
		}
		if told != stop {
			t.Error(stop, told)
		}
	}
	var all []api.Dya
	for d := range corners(from(-1, 2), from(3, 5)) {
		all = append(all, d)
	}
	want := []api.Dya{num(-3, 0), num(-5, 0), num(6, 0), num(10, 0)}
	if !slices.EqualFunc(all, want, sameNumber) {
		t.Error(all)
	}
}

// TestWrongEnclosures: of enclosures that are not right nothing is said, but no call panics, and each ends.
func TestWrongEnclosures(t *testing.T) {
	rows := [][]int{nil, {0}, {1}, {1, 0}, {2}, {-1}, {math.MinInt}, {math.MaxInt, math.MinInt}, {1 << 24}, filled(60, top), filled(301, top)}
	var ends []api.Dya
	for i, m := range rows {
		for _, e := range []int{math.MinInt, -6001, -1, 0, 6001, 1 << 40, math.MaxInt} {
			ends = append(ends, api.Dya{Neg: (i+e)%2 == 0, M: m, E: e})
		}
	}
	for k, lo := range ends {
		for _, hi := range ends[k%2:] {
			i := api.Ivl{Lo: lo, Hi: hi}
			Right(i)
			Has(i, lo)
			Inside(i, api.Ivl{Lo: hi, Hi: lo})
			Wide(i)
			Flip(i)
			Add(i, api.Ivl{Lo: hi, Hi: lo})
			Mul(i, api.Ivl{Lo: hi, Hi: lo})
		}
		i := api.Ivl{Lo: lo, Hi: ends[len(ends)-1-k]}
		Point(lo)
		for _, n := range []int{math.MinInt, -1 << 62, -1 << 40, -1, 0, 1, 1000, 1001, 1 << 13, 1 << 20, 1 << 40, 1 << 62, math.MaxInt} {
			Shift(i, n)
			Cut(i, n)
			Root(i, n)
			Root(api.Ivl{Lo: api.Dya{M: lo.M, E: lo.E}, Hi: i.Hi}, n)
		}
	}
}
