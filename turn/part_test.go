package turn

import (
	"math"
	"math/big"
	"testing"

	"overtone/api"
)

// part is an angle's part, by the words of the chapter.
func part(a api.Turn) api.Part {
	x := exactly(form(exactly(a)))
	whole := new(big.Rat).Mul(x, big.NewRat(8, 1))
	eighth := new(big.Int).Div(whole.Num(), whole.Denom()).Int64()
	if eighth%2 == 0 {
		return api.Part{Eighth: int(eighth), Rest: form(x.Sub(x, big.NewRat(eighth, 8)))}
	}
	return api.Part{Eighth: int(eighth), Rest: form(x.Sub(big.NewRat(eighth+1, 8), x))}
}

func TestSplit(t *testing.T) {
	for _, a := range append(append(small(), edges()...), drawn(12, 100000)...) {
		if got := Split(a); got != part(a) || !isForm(got.Rest) {
			t.Fatal(a, got, part(a))
		}
	}
}

func TestSplitByHand(t *testing.T) {
	for what, c := range map[string]struct {
		a    api.Turn
		want api.Part
	}{
		"the chapter's example":      {api.Turn{K: 3, Q: 3}, api.Part{Eighth: 3, Rest: api.Turn{K: 1, Q: 3}}},
		"0":                          {api.Turn{}, api.Part{}},
		"turns":                      {api.Turn{K: -5}, api.Part{}},
		"an eighth":                  {api.Turn{K: 1, Q: 3}, api.Part{Eighth: 1, Rest: api.Turn{K: 1, Q: 3}}},
		"a quarter":                  {api.Turn{K: 1, Q: 2}, api.Part{Eighth: 2}},
		"a half":                     {api.Turn{K: 1, Q: 1}, api.Part{Eighth: 4}},
		"three quarters":             {api.Turn{K: 3, Q: 2}, api.Part{Eighth: 6}},
		"the last eighth":            {api.Turn{K: 7, Q: 3}, api.Part{Eighth: 7, Rest: api.Turn{K: 1, Q: 3}}},
		"an eighth below 0":          {api.Turn{K: -1, Q: 3}, api.Part{Eighth: 7, Rest: api.Turn{K: 1, Q: 3}}},
		"within an odd one":          {api.Turn{K: 5, Q: 5}, api.Part{Eighth: 1, Rest: api.Turn{K: 3, Q: 5}}},
		"within an even one":         {api.Turn{K: 19, Q: 5}, api.Part{Eighth: 4, Rest: api.Turn{K: 3, Q: 5}}},
		"of another form":            {api.Turn{K: 20 + 64, Q: 6}, api.Part{Eighth: 2, Rest: api.Turn{K: 1, Q: 4}}},
		"the least":                  {api.Turn{K: 1, Q: 40}, api.Part{Rest: api.Turn{K: 1, Q: 40}}},
		"the greatest":               {api.Turn{K: big40 - 1, Q: 40}, api.Part{Eighth: 7, Rest: api.Turn{K: 1, Q: 40}}},
		"just below a quarter":       {api.Turn{K: big40/4 - 1, Q: 40}, api.Part{Eighth: 1, Rest: api.Turn{K: 1, Q: 40}}},
		"just above a quarter":       {api.Turn{K: big40/4 + 1, Q: 40}, api.Part{Eighth: 2, Rest: api.Turn{K: 1, Q: 40}}},
		"just below an eighth":       {api.Turn{K: big40/8 - 1, Q: 40}, api.Part{Rest: api.Turn{K: big40/8 - 1, Q: 40}}},
		"just above an eighth":       {api.Turn{K: big40/8 + 1, Q: 40}, api.Part{Eighth: 1, Rest: api.Turn{K: big40/8 - 1, Q: 40}}},
		"just above the last eighth": {api.Turn{K: big40/8*7 + 1, Q: 40}, api.Part{Eighth: 7, Rest: api.Turn{K: big40/8 - 1, Q: 40}}},
	} {
		if got := Split(c.a); got != c.want {
			t.Error(what, got)
		}
		if got := Join(c.want); got != Form(c.a) {
			t.Error("joined", what, got)
		}
	}
}

// TestParts is P6.3: an angle and its part tell one another.
func TestParts(t *testing.T) {
	angles := map[api.Part]api.Turn{}
	for _, a := range append(append(small(), edges()...), drawn(13, 100000)...) {
		p := Split(a)
		if got := Join(p); got != Form(a) {
			t.Fatal(a, p, got)
		}
		if was, is := angles[p]; is && was != Form(a) {
			t.Fatal("one part of two angles", a, was, p)
		}
		angles[p] = Form(a)
	}
}

// TestAllParts is P6.3 from the other side: each part that there may be is that of its angle.
func TestAllParts(t *testing.T) {
	for eighth := range 8 {
		for q := 3; q <= 12; q++ {
			for k := eighth % 2; k < 1<<(q-3)+eighth%2; k++ {
				p := api.Part{Eighth: eighth, Rest: form(exactly(api.Turn{K: k, Q: q}))}
				a := Join(p)
				if !isForm(a) || Split(a) != p {
					t.Fatal(p, a, Split(a))
				}
			}
		}
	}
}

// TestNoParts: of what is a part of no angle nothing is said; the angle is 0, then.
func TestNoParts(t *testing.T) {
	for what, p := range map[string]api.Part{
		"a quarter's rest":          {Eighth: 0, Rest: api.Turn{K: 1, Q: 2}},
		"an eighth's, of an even":   {Eighth: 2, Rest: api.Turn{K: 1, Q: 3}},
		"nothing left, of an odd":   {Eighth: 3},
		"beyond an eighth":          {Eighth: 5, Rest: api.Turn{K: 3, Q: 4}},
		"below 0":                   {Eighth: 4, Rest: api.Turn{K: -1, Q: 6}},
		"beyond a turn":             {Eighth: 4, Rest: api.Turn{K: 65, Q: 6}},
		"not in its form":           {Eighth: 4, Rest: api.Turn{K: 2, Q: 6}},
		"0 of another form":         {Eighth: 4, Rest: api.Turn{Q: 6}},
		"too many parts":            {Eighth: 4, Rest: api.Turn{K: 1, Q: 41}},
		"no parts":                  {Eighth: 4, Rest: api.Turn{K: 1, Q: -1}},
		"no eighth":                 {Eighth: 8},
		"no eighth, with a rest":    {Eighth: 9, Rest: api.Turn{K: 1, Q: 6}},
		"an eighth below 0":         {Eighth: -2, Rest: api.Turn{K: 1, Q: 6}},
		"the least eighth that is":  {Eighth: math.MinInt, Rest: api.Turn{K: 1, Q: 6}},
		"the greatest eighth there": {Eighth: math.MaxInt, Rest: api.Turn{K: 1, Q: 6}},
	} {
		if got := Join(p); got != (api.Turn{}) {
			t.Error(what, got)
		}
	}
}

// near tells whether floats are nearly the same.
func near(a, b float64) bool { return math.Abs(a-b) < 1e-12 }

// signed is a float, or its opposite.
func signed(f float64, opposite bool) float64 {
	if opposite {
		return -f
	}
	return f
}

// TestPlace holds against the library's own cosines and sines what an eighth tells of them.
func TestPlace(t *testing.T) {
	told := map[[3]bool]bool{}
	for k := range 256 {
		a := api.Turn{K: k, Q: 8}
		p := Split(a)
		sin, cos := math.Sincos(2 * math.Pi * float64(k) / 256)
		restSin, restCos := math.Sincos(2 * math.Pi * float64(p.Rest.K) / float64(int(1)<<p.Rest.Q))
		swap, cosFlips, sinFlips := Place(p.Eighth)
		if swap {
			restSin, restCos = restCos, restSin
		}
		if !near(cos, signed(restCos, cosFlips)) || !near(sin, signed(restSin, sinFlips)) {
			t.Error(a, p, swap, cosFlips, sinFlips)
		}
		told[[3]bool{swap, cosFlips, sinFlips}] = true
	}
	if len(told) != 8 {
		t.Error("eighths are told alike", told)
	}
	for _, eighth := range []int{math.MinInt, -9, -8, -2, -1, 8, 9, 10, 15, 16, 1 << 62, math.MaxInt} {
		if a, b, c := Place(eighth); a || b || c {
			t.Error("no eighth", eighth, a, b, c)
		}
	}
}
