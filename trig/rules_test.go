package trig

import (
	"math"
	"testing"

	"overtone/api"
	"overtone/dya"
	"overtone/flo"
	"overtone/turn"
)

// some is angles that the rules are tried at.
func some() []api.Turn {
	told := append(append(edges(), hard()...), drawn(83, 300)...)
	for k := range 64 {
		told = append(told, api.Turn{K: k, Q: 6})
	}
	return told
}

// TestNear is P8.2's first half: a cosine is within half a last place of what it is. The last place is that of the power of two that is at most the float.
func TestNear(t *testing.T) {
	for _, a := range some() {
		c, s := meant(a)
		for _, f := range []float64{Cos(a), Sin(a)} {
			v := c
			if _, power := math.Frexp(f); off(f, v).Cmp(wide(math.Ldexp(1, power-54))) > 0 {
				t.Fatal(a, f, v)
			}
			c = s
		}
	}
}

// TestOnTheCircle is P8.2's second half: both squares are within 2^-51 of 1.
func TestOnTheCircle(t *testing.T) {
	square := func(f float64) api.Dya {
		d, _ := flo.Of(f)
		return dya.Mul(d, d)
	}
	bound := dya.Shift(dya.Of(1), -51)
	for _, a := range some() {
		past := dya.Add(dya.Add(square(Cos(a)), square(Sin(a))), dya.Of(-1))
		if dya.Cmp(past, bound) > 0 || dya.Cmp(dya.Flip(past), bound) > 0 {
			t.Fatal(a, past)
		}
	}
}

// TestTurned is P8.3: opposites, halves and quarters of turns turn signs, and swap both, bit for bit. It also holds that whole turns are nothing.
func TestTurned(t *testing.T) {
	for _, a := range some() {
		c, s := Cos(a), Sin(a)
		for what, want := range map[string]struct {
			a    api.Turn
			c, s float64
		}{
			"opposite":         {turn.Flip(a), c, -s},
			"opposite parts":   {api.Turn{K: -a.K, Q: a.Q}, c, -s},
			"half":             {turn.Add(a, api.Turn{K: 1, Q: 1}), -c, -s},
			"quarter":          {turn.Add(a, api.Turn{K: 1, Q: 2}), -s, c},
			"quarter back":     {turn.Add(a, api.Turn{K: -1, Q: 2}), s, -c},
			"from a quarter":   {turn.Add(api.Turn{K: 1, Q: 2}, turn.Flip(a)), s, c},
			"form":             {turn.Form(a), c, s},
			"whole turns left": {api.Turn{K: a.K % (1 << a.Q), Q: a.Q}, c, s},
		} {
			if x, y := Cos(want.a), Sin(want.a); x != want.c || y != want.s {
				t.Fatal(what, a, x, y, c, s)
			}
		}
	}
}

// TestSameAgain is P3: no call hangs on calls ahead of it.
func TestSameAgain(t *testing.T) {
	angles := drawn(84, 50)
	var was []float64
	for _, a := range angles {
		was = append(was, Cos(a), Sin(a))
	}
	for i := len(angles) - 1; i >= 0; i-- {
		if s, c := Sin(angles[i]), Cos(angles[i]); c != was[2*i] || s != was[2*i+1] {
			t.Error(angles[i], c, s)
		}
	}
}

// TestWrong: of other angles, and of other numbers, nothing is said; but no call panics, and each ends.
func TestWrong(t *testing.T) {
	wild := []int{math.MinInt, -big40 - 1, -big40, -1 << 32, -4097, -2, -1, 0, 1, 3, 12, 13, 30, 31, 40, 41, 62, 63, 64, 4096, 4097, 1 << 30, 1 << 32, big40, big40 + 1, math.MaxInt}
	for _, k := range wild {
		for _, q := range wild {
			Cos(api.Turn{K: k, Q: q})
			Sin(api.Turn{K: k, Q: q})
			if v := Table(k, q); k < 0 || k > 12 || q < 0 || q > 1<<k {
				if len(v.Re)+len(v.Im) != 0 {
					t.Error("a table", k, q)
				}
			} else if len(v.Re) != q || len(v.Im) != q {
				t.Error("another length", k, q)
			}
		}
	}
}
