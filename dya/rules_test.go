package dya

import (
	"math"
	"slices"
	"testing"

	"overtone/api"
)

// TestAnyOrder is P2.2: sums and products go in any order, and together.
func TestAnyOrder(t *testing.T) {
	all := some(10, 150)
	for _, a := range all {
		for _, b := range all {
			if !same(Add(a, b), Add(b, a)) || !same(Mul(a, b), Mul(b, a)) {
				t.Fatal("swapped", a, b)
			}
			for _, c := range all {
				if !same(Add(Add(a, b), c), Add(a, Add(b, c))) {
					t.Fatal("sums", a, b, c)
				}
				if !same(Mul(Mul(a, b), c), Mul(a, Mul(b, c))) {
					t.Fatal("products", a, b, c)
				}
				if !same(Mul(a, Add(b, c)), Add(Mul(a, b), Mul(a, c))) {
					t.Fatal("together", a, b, c)
				}
			}
		}
	}
}

// calls is every call that answers a number, by its name.
func calls() map[string]func(a, b api.Dya) api.Dya {
	return map[string]func(a, b api.Dya) api.Dya{
		"Add":           Add,
		"Mul":           Mul,
		"Flip":          func(a, _ api.Dya) api.Dya { return Flip(a) },
		"Shift by 0":    func(a, _ api.Dya) api.Dya { return Shift(a, 0) },
		"Shift by 9":    func(a, _ api.Dya) api.Dya { return Shift(a, 9) },
		"Shift by -9":   func(a, _ api.Dya) api.Dya { return Shift(a, -9) },
		"Make":          func(a, b api.Dya) api.Dya { return Make(b.Neg, a.M, b.E) },
		"Cut to 1":      func(a, _ api.Dya) api.Dya { return Cut(a, 1, false) },
		"Cut to 30, up": func(a, _ api.Dya) api.Dya { return Cut(a, 30, true) },
		"Cut to all":    func(a, _ api.Dya) api.Dya { return Cut(a, 1440, true) },
	}
}

// roomy is a number whose natural has spare room behind it, that is marked; and all of that memory.
func roomy(d api.Dya) (api.Dya, []int) {
	all := append(slices.Clone(d.M), 77, 77, 77, 77)
	d.M = all[:len(d.M)]
	return d, all
}

// spoil writes over a row and its spare room.
func spoil(row []int) {
	row = row[:cap(row)]
	for i := range row {
		row[i] = -9
	}
}

// TestNewMemory is P3: arguments and their spare room stay as they are, and share nothing with what comes out.
func TestNewMemory(t *testing.T) {
	for name, call := range calls() {
		for _, a := range some(20, 300) {
			for _, b := range []api.Dya{{}, Of(1), Of(-40), {M: []int{top, top, 3}, E: -60}, a, Flip(a)} {
				x, allX := roomy(a)
				y, allY := roomy(b)
				wasX, wasY := slices.Clone(allX), slices.Clone(allY)
				got := call(x, y)
				was := got
				was.M = slices.Clone(got.M)
				spoil(call(x, y).M)
				if !slices.Equal(allX, wasX) || !slices.Equal(allY, wasY) {
					t.Fatal(name, a, b, "an argument was changed")
				}
				spoil(allX)
				spoil(allY)
				if !same(got, was) {
					t.Fatal(name, a, b, "an answer was changed")
				}
				if !same(call(a, b), was) {
					t.Fatal(name, a, b, "another answer")
				}
			}
		}
	}
}

// TestAsked holds that what only asks changes nothing, either.
func TestAsked(t *testing.T) {
	for _, d := range some(60, 6000) {
		x, all := roomy(d)
		was := slices.Clone(all)
		Right(x)
		Sign(x)
		Cmp(x, x)
		Cmp(x, Shift(x, 1))
		if !slices.Equal(all, was) {
			t.Error(d)
		}
	}
}

// TestAnswersAreRight holds that every answer is in its one form.
func TestAnswersAreRight(t *testing.T) {
	all := some(20, 300)
	for name, call := range calls() {
		for _, a := range all {
			for _, b := range all {
				if got := call(a, b); !Right(got) {
					t.Fatal(name, a, b, got)
				}
			}
		}
	}
}

// TestWrongNumbers: of numbers that are not right nothing is said, but no call panics, and each ends.
func TestWrongNumbers(t *testing.T) {
	rows := [][]int{nil, {0}, {1}, {1, 0}, {0, 0, 0}, {2}, {-1}, {1, -1}, {math.MinInt}, {math.MaxInt, math.MinInt}, {1 << 24}, filled(60, top), filled(301, top), filled(400, math.MinInt)}
	var all []api.Dya
	for i, m := range rows {
		for _, e := range []int{math.MinInt, -6001, -1, 0, 7, 6001, 1 << 20, 1 << 40, math.MaxInt} {
			all = append(all, api.Dya{Neg: (i+e)%2 == 0, M: m, E: e})
		}
	}
	for _, a := range all {
		for _, b := range all {
			Add(a, b)
			Cmp(a, b)
			Mul(a, b)
		}
		Right(a)
		Flip(a)
		Sign(a)
		Make(a.Neg, a.M, a.E)
		for _, k := range []int{math.MinInt, -1 << 40, -6001, -1, 0, 1, 6001, 1 << 40, math.MaxInt} {
			Shift(a, k)
			Cut(a, k, false)
			Cut(a, k, true)
		}
	}
	for _, n := range []int{math.MinInt, -1<<62 - 1, 1<<62 + 1, math.MaxInt} {
		Of(n)
	}
}
