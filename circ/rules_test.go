package circ

import (
	"math"
	"slices"
	"testing"

	"overtone/api"
	"overtone/dya"
	"overtone/ivl"
	"overtone/turn"
)

// some40 is angles that the rules are tried at.
func some40() []api.Turn {
	told := append(drawn(71, 60), api.Turn{}, api.Turn{K: 1, Q: 1}, api.Turn{K: 3, Q: 2}, api.Turn{K: 1, Q: 40}, api.Turn{K: -1, Q: 40}, api.Turn{K: big40/4 - 1, Q: 40})
	for k := range 16 {
		told = append(told, api.Turn{K: k, Q: 4})
	}
	return told
}

// same tells whether two enclosures have the same ends.
func same(a, b api.Ivl) bool { return dya.Cmp(a.Lo, b.Lo) == 0 && dya.Cmp(a.Hi, b.Hi) == 0 }

// fit fails unless two enclosures of one number share some, and the made one is no wider than so many multiples of 2^-n.
func fit(t *testing.T, n, many int, told, made api.Ivl, what ...any) {
	t.Helper()
	if dya.Cmp(told.Lo, made.Hi) > 0 || dya.Cmp(made.Lo, told.Hi) > 0 {
		t.Fatal(what, n, "apart", told, made)
	}
	if dya.Cmp(ivl.Wide(made), dya.Shift(dya.Of(many), -n)) > 0 {
		t.Fatal(what, n, "wide", made)
	}
}

// TestOnTheCircle is P7.2: squares sum to 1; sums of angles, and doubles, fit.
func TestOnTheCircle(t *testing.T) {
	one := ivl.Point(dya.Of(1))
	angles := some40()
	for _, n := range []int{1, 2, 10, 64, 400} {
		for k, a := range angles {
			c, s := Cos(a, n), Sin(a, n)
			cc, ss := ivl.Mul(c, c), ivl.Mul(s, s)
			fit(t, n, 4, one, ivl.Add(cc, ss), "squares", a)
			double := turn.Times(a, 2)
			fit(t, n, 4, Cos(double, n), ivl.Add(cc, ivl.Flip(ss)), "double", a)
			fit(t, n, 4, Cos(double, n), ivl.Add(ivl.Shift(cc, 1), ivl.Flip(one)), "double, by the cosine", a)
			fit(t, n, 4, Sin(double, n), ivl.Shift(ivl.Mul(s, c), 1), "double sine", a)
			for j := k % 9; j < len(angles); j += 9 {
				b := angles[j]
				x, y, sum := Cos(b, n), Sin(b, n), turn.Add(a, b)
				fit(t, n, 4, Cos(sum, n), ivl.Add(ivl.Mul(c, x), ivl.Flip(ivl.Mul(s, y))), "sum", a, b)
				fit(t, n, 4, Sin(sum, n), ivl.Add(ivl.Mul(s, x), ivl.Mul(c, y)), "sine of a sum", a, b)
			}
		}
	}
}

// TestTurned holds that opposites, halves and quarters of turns turn signs, and swap both, and that whole turns are nothing.
func TestTurned(t *testing.T) {
	quarter, half := api.Turn{K: 1, Q: 2}, api.Turn{K: 1, Q: 1}
	for _, a := range append(some40(), edges()...) {
		for _, n := range []int{1, 9, 100} {
			c, s := Cos(a, n), Sin(a, n)
			for what, is := range map[string]bool{
				"opposite": same(Cos(turn.Flip(a), n), c) && same(Sin(turn.Flip(a), n), ivl.Flip(s)),
				"half":     same(Cos(turn.Add(a, half), n), ivl.Flip(c)) && same(Sin(turn.Add(a, half), n), ivl.Flip(s)),
				"quarter":  same(Cos(turn.Add(a, quarter), n), ivl.Flip(s)) && same(Sin(turn.Add(a, quarter), n), c),
				"form":     same(Cos(turn.Form(a), n), c) && same(Sin(turn.Form(a), n), s),
			} {
				if !is {
					t.Fatal(what, a, n)
				}
			}
		}
	}
}

// TestMore is P7.3: with more bits an enclosure lies in that with fewer.
func TestMore(t *testing.T) {
	for _, a := range []api.Turn{{}, {K: 1, Q: 2}, {K: 3, Q: 3}, {K: -7, Q: 13}, {K: 1, Q: 40}, {K: big40/2 - 1, Q: 40}, {K: big40/4 + 1, Q: 40}} {
		c, s := Cos(a, 1), Sin(a, 1)
		for n := 2; n <= api.MaxBits; n++ {
			nextC, nextS := Cos(a, n), Sin(a, n)
			if !ivl.Inside(nextC, c) || !ivl.Inside(nextS, s) {
				t.Fatal(a, n)
			}
			c, s = nextC, nextS
		}
	}
	for _, a := range some40() {
		for _, n := range []int{2, 17, 53, 399} {
			for _, fewer := range []int{1, n / 2, n - 1} {
				if !ivl.Inside(Cos(a, n), Cos(a, fewer)) || !ivl.Inside(Sin(a, n), Sin(a, fewer)) {
					t.Fatal(a, n, fewer)
				}
			}
		}
	}
}

// TestHalves holds that halves are told one after the other, down to the angle, and no farther than they are asked for.
func TestHalves(t *testing.T) {
	for _, a := range []api.Turn{{}, {K: 1, Q: 1}, {K: 5, Q: 3}, {K: big40 - 1, Q: 40}} {
		last, many := api.Turn{K: a.K}, 0
		for half := range halves(a) {
			if turn.Times(half, 2) != turn.Form(last) || !turn.Right(half) {
				t.Error(a, half, last)
			}
			last, many = half, many+1
		}
		if last != a || many != a.Q {
			t.Error(a, last, many)
		}
	}
	many := 0
	for half := range halves(api.Turn{K: 3, Q: 40}) {
		many++
		if half.Q == 7 {
			break
		}
	}
	if many != 7 {
		t.Error("told on", many)
	}
}

// TestAnswersAreRight holds that all ends are right, and in order.
func TestAnswersAreRight(t *testing.T) {
	for _, a := range append(some40(), edges()...) {
		for _, n := range []int{1, 2, 53, 400} {
			if c, s := Cos(a, n), Sin(a, n); !ivl.Right(c) || !ivl.Right(s) {
				t.Fatal(a, n, c, s)
			}
		}
	}
}

// copied is the same, in other memory.
func copied(i api.Ivl) api.Ivl {
	i.Lo.M, i.Hi.M = slices.Clone(i.Lo.M), slices.Clone(i.Hi.M)
	return i
}

// spoil writes over rows and their spare room.
func spoil(rows ...[]int) {
	for _, row := range rows {
		row = row[:cap(row)]
		for i := range row {
			row[i] = -9
		}
	}
}

// TestNewMemory is P3: what comes out shares nothing, neither with what comes out later nor one end with the other, and no call hangs on calls ahead of it.
func TestNewMemory(t *testing.T) {
	for _, a := range append(some40(), edges()...) {
		for _, n := range []int{1, 30, 400} {
			for _, call := range []func(api.Turn, int) api.Ivl{Cos, Sin} {
				got, other := call(a, n), call(a, n)
				was := copied(got)
				spoil(got.Lo.M, other.Lo.M, other.Hi.M)
				if got.Lo = was.Lo; !same(got, was) {
					t.Fatal("both ends share", a, n)
				}
				if !same(call(a, n), was) {
					t.Fatal("another answer", a, n)
				}
			}
		}
	}
}

// TestFloorMemory is P3 of Floor: the number handed in, and its spare room, stay as they are, and come out nowhere.
func TestFloorMemory(t *testing.T) {
	for _, d := range numbers() {
		for _, n := range []int{1, 24, 400} {
			room := append(slices.Clone(d.M), 77, 77, 77)
			x := d
			x.M = room[:len(d.M)]
			was := slices.Clone(room)
			got := Floor(x, n)
			want := Floor(d, n)
			if !slices.Equal(room, was) {
				t.Fatal("changed", d, n)
			}
			spoil(room)
			if dya.Cmp(got, want) != 0 {
				t.Fatal("shared", d, n)
			}
		}
	}
}

// TestWrong: of angles that are not right nothing is said, nor of other numbers of bits, nor of numbers that are not right; but no call panics, and each ends.
func TestWrong(t *testing.T) {
	bits := []int{math.MinInt, -1 << 40, -401, -1, 0, 1, 2, 400, 401, 1000, 1 << 20, 1 << 40, math.MaxInt}
	for _, k := range []int{math.MinInt, -big40 - 1, -big40, -1, 0, 1, 3, big40, big40 + 1, math.MaxInt} {
		for _, q := range []int{math.MinInt, -1 << 40, -1, 0, 3, 40, 41, 63, 64, 1 << 40, math.MaxInt} {
			for _, n := range bits {
				Cos(api.Turn{K: k, Q: q}, n)
				Sin(api.Turn{K: k, Q: q}, n)
			}
		}
	}
	for _, n := range []int{math.MinInt, -1, 0, 401, math.MaxInt} {
		if c, s := Cos(api.Turn{K: 1, Q: 3}, n), Sin(api.Turn{K: 1, Q: 3}, n); !same(c, api.Ivl{}) || !same(s, api.Ivl{}) {
			t.Error(n, c, s)
		}
	}
	if c := Cos(api.Turn{K: 1, Q: 41}, 5); !same(c, api.Ivl{}) {
		t.Error("no angle", c)
	}
	for _, m := range [][]int{nil, {}, {0}, {4}, {1}, {-1}, {1 << 24}, {math.MinInt, math.MaxInt}, make([]int, 400), slices.Repeat([]int{1}, 61)} {
		for _, e := range []int{math.MinInt, -1 << 40, -6001, -400, 0, 6001, 1 << 40, math.MaxInt} {
			for _, n := range bits {
				Floor(api.Dya{M: m, E: e}, n)
				Floor(api.Dya{Neg: true, M: m, E: e}, n)
			}
		}
	}
}
