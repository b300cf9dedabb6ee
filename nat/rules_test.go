package nat

import (
	"math"
	"slices"
	"testing"
)

// TestAnyOrder is P1.2: sums and products go in any order, and together.
func TestAnyOrder(t *testing.T) {
	rows := some(70)
	for _, a := range rows {
		for _, b := range rows {
			if !slices.Equal(Add(a, b), Add(b, a)) || !slices.Equal(Mul(a, b), Mul(b, a)) {
				t.Fatal("swapped", a, b)
			}
			for _, c := range rows {
				if !slices.Equal(Add(Add(a, b), c), Add(a, Add(b, c))) {
					t.Fatal("sums", a, b, c)
				}
				if !slices.Equal(Mul(Mul(a, b), c), Mul(a, Mul(b, c))) {
					t.Fatal("products", a, b, c)
				}
				if !slices.Equal(Mul(a, Add(b, c)), Add(Mul(a, b), Mul(a, c))) {
					t.Fatal("together", a, b, c)
				}
			}
		}
	}
}

// TestBack is P1.3: what is added is taken off again; what is shifted up is shifted down again.
func TestBack(t *testing.T) {
	rows := some(200)
	for _, a := range rows {
		for _, b := range rows {
			if got, is := Sub(Add(a, b), b); !is || !slices.Equal(got, a) {
				t.Fatal("sum", a, b, got)
			}
		}
		for k := -3; k < 24*100; k += 1 + k/30*7 {
			if got := Shr(Shl(a, k), k); !slices.Equal(got, a) {
				t.Fatal("shift", a, k, got)
			}
		}
		if len(a) > 0 && !slices.Equal(Shr(Shl(a, 24*300-Len(a)), 24*300-Len(a)), a) {
			t.Fatal("as far as may be", a)
		}
	}
}

// calls is every call that answers a natural, by its name.
func calls() map[string]func(a, b []int) []int {
	first := func(a []int, _ bool) []int { return a }
	return map[string]func(a, b []int) []int{
		"Add":           Add,
		"Mul":           Mul,
		"Sub":           func(a, b []int) []int { return first(Sub(a, b)) },
		"Sub, swapped":  func(a, b []int) []int { return first(Sub(b, a)) },
		"Shl by 0":      func(a, _ []int) []int { return Shl(a, 0) },
		"Shl by -1":     func(a, _ []int) []int { return Shl(a, -1) },
		"Shl by a limb": func(a, _ []int) []int { return Shl(a, 24) },
		"Shl by 7":      func(a, _ []int) []int { return Shl(a, 7) },
		"Shr by 0":      func(a, _ []int) []int { return Shr(a, 0) },
		"Shr by -1":     func(a, _ []int) []int { return Shr(a, -1) },
		"Shr by a limb": func(a, _ []int) []int { return Shr(a, 24) },
		"Shr by 7":      func(a, _ []int) []int { return Shr(a, 7) },
		"Root":          func(a, _ []int) []int { return Root(a) },
	}
}

// roomy is a row with spare room behind it, that is marked; and all of that memory.
func roomy(a []int) ([]int, []int) {
	all := append(slices.Clone(a), 77, 77, 77, 77)
	return all[:len(a)], all
}

// TestNewMemory is P3: arguments and their spare room stay as they are, and share nothing with what comes out.
func TestNewMemory(t *testing.T) {
	for name, call := range calls() {
		for _, a := range some(40) {
			for _, b := range [][]int{nil, {1}, {top, top, 3}, a} {
				x, allX := roomy(a)
				y, allY := roomy(b)
				wasX, wasY := slices.Clone(allX), slices.Clone(allY)
				got := call(x, y)
				was := slices.Clone(got)
				again := call(x, y)
				for i := range again[:cap(again)] {
					again[:cap(again)][i] = -9
				}
				if !slices.Equal(allX, wasX) || !slices.Equal(allY, wasY) {
					t.Fatal(name, a, b, "an argument was changed")
				}
				for i := range allX {
					allX[i] = -8
				}
				for i := range allY {
					allY[i] = -8
				}
				if !slices.Equal(got, was) {
					t.Fatal(name, a, b, "an answer was changed")
				}
				if !slices.Equal(call(a, b), was) {
					t.Fatal(name, a, b, "another answer")
				}
			}
		}
	}
	for _, n := range []int{0, 1, 1 << 40} {
		got := Of(n)
		for i := range got[:cap(got)] {
			got[:cap(got)][i] = -9
		}
		if !Right(Of(n)) {
			t.Error(n)
		}
	}
}

// TestAsked holds that what only asks changes nothing, either.
func TestAsked(t *testing.T) {
	for _, a := range some(300) {
		x, all := roomy(a)
		was := slices.Clone(all)
		Right(x)
		Int(x)
		Len(x)
		Cmp(x, x)
		if !slices.Equal(all, was) {
			t.Error(a)
		}
	}
}

// TestAnswersAreNaturals holds that every answer is in its one form.
func TestAnswersAreNaturals(t *testing.T) {
	rows := some(140)
	for name, call := range calls() {
		for _, a := range rows {
			for _, b := range rows {
				if got := call(a, b); !Right(got) {
					t.Fatal(name, a, b, got)
				}
			}
		}
	}
}

// TestWrongRows: of rows that are no naturals nothing is said, but no call panics, and each ends.
func TestWrongRows(t *testing.T) {
	rows := [][]int{
		nil, {0}, {1, 0}, {0, 0, 0, 0, 0}, {1, 0, 0, 0, 0}, {-1}, {1, -1}, {-1, 1}, {math.MinInt}, {math.MaxInt, math.MaxInt},
		{1 << 24}, {5, 1 << 24}, {math.MinInt, 0, math.MaxInt}, filled(301, top), make([]int, 301), filled(400, -1), filled(400, math.MinInt),
	}
	for _, a := range rows {
		for _, b := range rows {
			for _, call := range calls() {
				call(a, b)
			}
			Cmp(a, b)
		}
		Right(a)
		Int(a)
		Len(a)
		for _, k := range []int{math.MinInt, -1, 0, 1, 24, 24 * 301, 1 << 31, 1 << 50, math.MaxInt} {
			Shl(a, k)
			Shr(a, k)
		}
	}
}
