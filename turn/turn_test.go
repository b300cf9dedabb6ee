package turn

import (
	"math"
	"math/big"
	"math/rand"
	"testing"

	"overtone/api"
)

const (
	big40 = 1 << 40
	big20 = 1 << 20
)

// exactly is an angle as a number of turns, by the library's own.
func exactly(t api.Turn) *big.Rat {
	return new(big.Rat).SetFrac(big.NewInt(int64(t.K)), new(big.Int).Lsh(big.NewInt(1), uint(t.Q)))
}

// within is a number less whole turns: at least 0, and below 1.
func within(x *big.Rat) *big.Rat {
	whole := new(big.Int).Div(x.Num(), x.Denom())
	return new(big.Rat).Sub(x, new(big.Rat).SetInt(whole))
}

// form is the form of the angle of so many turns.
func form(x *big.Rat) api.Turn {
	x = within(x)
	if x.Sign() == 0 {
		return api.Turn{}
	}
	return api.Turn{K: int(x.Num().Int64()), Q: x.Denom().BitLen() - 1}
}

// isForm tells whether an angle is in its form, by the words of the chapter.
func isForm(t api.Turn) bool {
	if t.K == 0 {
		return t.Q == 0
	}
	return t.K&1 == 1 && t.K > 0 && t.Q <= 40 && t.K < 1<<t.Q
}

// edges is angles about the ends of what may be, and about all powers of two.
func edges() []api.Turn {
	var all []api.Turn
	for _, q := range []int{0, 1, 2, 3, 4, 20, 39, 40} {
		for _, off := range []int{-1, 0, 1} {
			for _, at := range []int{0, 1 << q, 1 << q / 2, 1 << q / 8, 3 << q / 8, 5 << q / 4, big40 - 1} {
				for _, k := range []int{at + off, -at - off} {
					if Right(api.Turn{K: k, Q: q}) {
						all = append(all, api.Turn{K: k, Q: q})
					}
				}
			}
		}
	}
	return all
}

// drawn is so many right angles, that are drawn from a fixed beginning: of all numbers of parts, great and small.
func drawn(from int64, many int) []api.Turn {
	draw := rand.New(rand.NewSource(from))
	var all []api.Turn
	for range many {
		k := draw.Intn(2*big40+1) - big40
		all = append(all, api.Turn{K: k >> draw.Intn(41), Q: draw.Intn(41)})
	}
	return all
}

// small is all right angles of few parts, from two turns below 0 to two turns above.
func small() []api.Turn {
	var all []api.Turn
	for q := range 6 {
		for k := -2 << q; k <= 2<<q; k++ {
			all = append(all, api.Turn{K: k, Q: q})
		}
	}
	return all
}

// wrong is angles that are not right.
func wrong() []api.Turn {
	var all []api.Turn
	for _, k := range []int{math.MinInt, -big40 - 1, -1, 0, 1, big40 + 1, 1 << 62, math.MaxInt} {
		for _, q := range []int{math.MinInt, -1 << 40, -64, -1, 0, 3, 40, 41, 62, 63, 64, 1 << 40, math.MaxInt} {
			if q < 0 || q > 40 || k < -big40 || k > big40 {
				all = append(all, api.Turn{K: k, Q: q})
			}
		}
	}
	return all
}

func TestRight(t *testing.T) {
	for q := range 41 {
		for _, k := range []int{-big40, -big40 + 1, -5, -1, 0, 1, 2, 1 << q, big40 - 1, big40} {
			if !Right(api.Turn{K: k, Q: q}) {
				t.Error(k, q, "not right")
			}
		}
		for _, k := range []int{math.MinInt, -1 << 62, -big40 - 1, big40 + 1, 1 << 62, math.MaxInt} {
			if Right(api.Turn{K: k, Q: q}) {
				t.Error(k, q, "right")
			}
		}
	}
	for _, a := range wrong() {
		if Right(a) {
			t.Error(a, "right")
		}
	}
	if len(wrong()) < 60 {
		t.Error("too few", len(wrong()))
	}
}

func TestForm(t *testing.T) {
	for _, a := range append(append(small(), edges()...), drawn(6, 100000)...) {
		got := Form(a)
		if want := form(exactly(a)); got != want || !isForm(got) {
			t.Fatal(a, got, want)
		}
		if Form(got) != got {
			t.Fatal("twice", a, got)
		}
	}
}

func TestFormByHand(t *testing.T) {
	for what, c := range map[string][2]api.Turn{
		"0":                          {Form(api.Turn{}), {}},
		"0 of many":                  {Form(api.Turn{Q: 40}), {}},
		"a turn":                     {Form(api.Turn{K: 1}), {}},
		"turns":                      {Form(api.Turn{K: -7}), {}},
		"most turns":                 {Form(api.Turn{K: big40}), {}},
		"most turns below 0":         {Form(api.Turn{K: -big40}), {}},
		"a half":                     {Form(api.Turn{K: 1, Q: 1}), {K: 1, Q: 1}},
		"a half below 0":             {Form(api.Turn{K: -1, Q: 1}), {K: 1, Q: 1}},
		"a quarter below 0":          {Form(api.Turn{K: -1, Q: 2}), {K: 3, Q: 2}},
		"halved":                     {Form(api.Turn{K: -6, Q: 4}), {K: 5, Q: 3}},
		"beyond a turn":              {Form(api.Turn{K: 17, Q: 4}), {K: 1, Q: 4}},
		"beyond a turn, halved":      {Form(api.Turn{K: 36, Q: 4}), {K: 1, Q: 2}},
		"the least there is":         {Form(api.Turn{K: 1, Q: 40}), {K: 1, Q: 40}},
		"the least, below 0":         {Form(api.Turn{K: -1, Q: 40}), {K: big40 - 1, Q: 40}},
		"the greatest there is":      {Form(api.Turn{K: big40 - 1, Q: 40}), {K: big40 - 1, Q: 40}},
		"the greatest, below 0":      {Form(api.Turn{K: -big40 + 1, Q: 40}), {K: 1, Q: 40}},
		"a turn of most parts":       {Form(api.Turn{K: big40, Q: 40}), {}},
		"a turn below 0":             {Form(api.Turn{K: -big40, Q: 40}), {}},
		"a half of most":             {Form(api.Turn{K: big40 / 2, Q: 40}), {K: 1, Q: 1}},
		"two turns of most":          {Form(api.Turn{K: big40, Q: 39}), {}},
		"two turns, and a bit below": {Form(api.Turn{K: big40 - 1, Q: 39}), {K: big40/2 - 1, Q: 39}},
	} {
		if c[0] != c[1] {
			t.Error(what, c[0])
		}
	}
}

func TestAdd(t *testing.T) {
	few := small()
	for _, a := range few {
		for _, b := range few {
			sum := new(big.Rat).Add(exactly(a), exactly(b))
			if got := Add(a, b); got != form(sum) {
				t.Fatal(a, b, got)
			}
		}
	}
	all := append(edges(), drawn(7, 300)...)
	for _, a := range all {
		for _, b := range all {
			sum := new(big.Rat).Add(exactly(a), exactly(b))
			if got := Add(a, b); got != form(sum) || !isForm(got) {
				t.Fatal(a, b, got)
			}
		}
	}
}

func TestAddByHand(t *testing.T) {
	least, most := api.Turn{K: 1, Q: 40}, api.Turn{K: big40 - 1, Q: 40}
	for what, c := range map[string][2]api.Turn{
		"nothing":           {Add(api.Turn{}, api.Turn{}), {}},
		"halves":            {Add(api.Turn{K: 1, Q: 1}, api.Turn{K: 1, Q: 1}), {}},
		"of other parts":    {Add(api.Turn{K: 1, Q: 3}, api.Turn{K: 3, Q: 2}), {K: 7, Q: 3}},
		"beyond a turn":     {Add(api.Turn{K: 3, Q: 2}, api.Turn{K: 3, Q: 2}), {K: 1, Q: 1}},
		"most and least":    {Add(most, least), {}},
		"most, twice":       {Add(most, most), {K: big40/2 - 1, Q: 39}},
		"least, twice":      {Add(least, least), {K: 1, Q: 39}},
		"far apart":         {Add(api.Turn{K: 1, Q: 1}, least), {K: big40/2 + 1, Q: 40}},
		"turns and a part":  {Add(api.Turn{K: -big40}, least), least},
		"not in their form": {Add(api.Turn{K: -2, Q: 4}, api.Turn{K: 12, Q: 3}), {K: 3, Q: 3}},
	} {
		if c[0] != c[1] {
			t.Error(what, c[0])
		}
	}
}

func TestFlip(t *testing.T) {
	for _, a := range append(append(small(), edges()...), drawn(8, 50000)...) {
		got := Flip(a)
		if want := form(new(big.Rat).Neg(exactly(a))); got != want || !isForm(got) {
			t.Fatal(a, got, want)
		}
	}
	for what, c := range map[string][2]api.Turn{
		"0":                {Flip(api.Turn{}), {}},
		"turns":            {Flip(api.Turn{K: -big40}), {}},
		"a half":           {Flip(api.Turn{K: 1, Q: 1}), {K: 1, Q: 1}},
		"a quarter":        {Flip(api.Turn{K: 1, Q: 2}), {K: 3, Q: 2}},
		"some":             {Flip(api.Turn{K: 3, Q: 4}), {K: 13, Q: 4}},
		"below 0":          {Flip(api.Turn{K: -3, Q: 4}), {K: 3, Q: 4}},
		"of another form":  {Flip(api.Turn{K: 20, Q: 4}), {K: 3, Q: 2}},
		"the least":        {Flip(api.Turn{K: 1, Q: 40}), {K: big40 - 1, Q: 40}},
		"a turn less some": {Flip(api.Turn{K: 1 - big40, Q: 40}), {K: big40 - 1, Q: 40}},
	} {
		if c[0] != c[1] {
			t.Error(what, c[0])
		}
	}
}

// many is numbers of times: few, about all powers of two, and the ends of what may be.
func many() []int {
	all := []int{0, 3, -3, 5, -5, 100, -100, 654321, -654321, big20, -big20}
	for n := 1; n < big20; n *= 2 {
		all = append(all, n, -n, n+1, -n-1, 2*n-1, 1-2*n)
	}
	return all
}

func TestTimes(t *testing.T) {
	for _, a := range append(append(small(), edges()...), drawn(9, 3000)...) {
		for _, n := range many() {
			product := new(big.Rat).Mul(exactly(a), big.NewRat(int64(n), 1))
			if got := Times(a, n); got != form(product) || !isForm(got) {
				t.Fatal(a, n, got)
			}
		}
	}
	for what, c := range map[string][2]api.Turn{
		"some":                  {Times(api.Turn{K: 3, Q: 4}, 6), {K: 1, Q: 3}},
		"once":                  {Times(api.Turn{K: -6, Q: 4}, 1), {K: 5, Q: 3}},
		"less than once":        {Times(api.Turn{K: 3, Q: 4}, -1), {K: 13, Q: 4}},
		"never":                 {Times(api.Turn{K: 3, Q: 4}, 0), {}},
		"most, most often":      {Times(api.Turn{K: big40 - 1, Q: 40}, big20), {K: big20 - 1, Q: 20}},
		"most, most often back": {Times(api.Turn{K: big40 - 1, Q: 40}, -big20), {K: 1, Q: 20}},
		"turns, most often":     {Times(api.Turn{K: big40}, big20), {}},
		"least, most often":     {Times(api.Turn{K: 1, Q: 40}, big20), {K: 1, Q: 20}},
		"to a turn":             {Times(api.Turn{K: 1, Q: 20}, big20), {}},
		"most, once less":       {Times(api.Turn{K: big40 - 1, Q: 40}, big20-1), {K: big40 - big20 + 1, Q: 40}},
	} {
		if c[0] != c[1] {
			t.Error(what, c[0])
		}
	}
}

// TestAsNumbersAre is P6.2: angles are summed as whole numbers of parts are, turns left out.
func TestAsNumbersAre(t *testing.T) {
	all := append(edges(), drawn(10, 200)...)
	draw := rand.New(rand.NewSource(62))
	for _, a := range all {
		if Add(a, api.Turn{}) != Form(a) || Add(a, Flip(a)) != (api.Turn{}) || Flip(Flip(a)) != Form(a) || Add(a, a) != Times(a, 2) || Add(Form(a), a) != Times(a, 2) {
			t.Fatal(a)
		}
		for _, b := range all {
			c, m, n := all[draw.Intn(len(all))], draw.Intn(1<<19)-1<<18, draw.Intn(1<<19)-1<<18
			switch {
			case Add(a, b) != Add(b, a):
				t.Fatal("sides", a, b)
			case Add(Add(a, b), c) != Add(a, Add(b, c)):
				t.Fatal("three", a, b, c)
			case Flip(Add(a, b)) != Add(Flip(a), Flip(b)):
				t.Fatal("opposites", a, b)
			case Times(Add(a, b), m) != Add(Times(a, m), Times(b, m)):
				t.Fatal("times a sum", a, b, m)
			case Times(a, m+n) != Add(Times(a, m), Times(a, n)):
				t.Fatal("a sum of times", a, m, n)
			case Times(Times(a, m>>9), n>>10) != Times(a, (m>>9)*(n>>10)):
				t.Fatal("times times", a, m, n)
			}
		}
	}
	for q := range 8 {
		for a := range 1 << q {
			for b := range 1 << q {
				if got := Add(api.Turn{K: a, Q: q}, api.Turn{K: b, Q: q}); got != Form(api.Turn{K: a + b, Q: q}) {
					t.Fatal(a, b, q, got)
				}
			}
		}
	}
}

// TestAlike is P6.2, too: what is alike is answered alike.
func TestAlike(t *testing.T) {
	for _, a := range append(small(), drawn(11, 2000)...) {
		f := Form(a)
		for turns := -3; turns <= 3; turns++ {
			for more := range 3 {
				b := api.Turn{K: (f.K + turns<<f.Q) << more, Q: f.Q + more}
				if !Right(b) {
					continue
				}
				if Form(b) != f || Flip(b) != Flip(f) || Add(b, a) != Add(f, f) || Times(b, 77) != Times(f, 77) || Split(b) != Split(f) {
					t.Fatal(a, b)
				}
			}
		}
	}
}

// TestWrong: of angles that are not right nothing is said, nor of other numbers of times, but no call panics, and each ends.
func TestWrong(t *testing.T) {
	all := append(wrong(), api.Turn{}, api.Turn{K: 3, Q: 4}, api.Turn{K: big40 - 1, Q: 40}, api.Turn{K: -big40})
	for _, a := range all {
		Form(a)
		Flip(a)
		Split(a)
		for _, b := range all {
			Add(a, b)
		}
		for _, n := range []int{math.MinInt, -1 << 40, -big20 - 1, -1, 0, 1, big20 + 1, 1 << 40, math.MaxInt} {
			Times(a, n)
		}
		for _, eighth := range []int{math.MinInt, -9, -8, -1, 0, 1, 2, 3, 4, 5, 6, 7, 8, 9, 15, 1 << 62, math.MaxInt} {
			Join(api.Part{Eighth: eighth, Rest: a})
		}
	}
}
