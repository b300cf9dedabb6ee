package flo

import (
	"math"
	"math/big"
	"math/rand"
	"slices"
	"testing"

	"overtone/api"
	"overtone/dya"
)

// nearby is what Near must answer, by the library's own rounding.
func nearby(d api.Dya) float64 {
	f, _ := exactly(d).Float64()
	return f
}

// away is how far a number is from a finite float.
func away(d api.Dya, f float64) *big.Float {
	off := new(big.Float).SetPrec(4000).Sub(exactly(d), big.NewFloat(f))
	return off.Abs(off)
}

// drawn is right numbers of many bits, from a fixed beginning: about each height that floats have, and about each way off from it.
func drawn() []api.Dya {
	draw := rand.New(rand.NewSource(5))
	var all []api.Dya
	for height := -1200; height <= 1100; height++ {
		for _, bits := range []int{1, 2, 3, 20, 52, 53, 54, 55, 80, 200, 1440} {
			m := new(big.Int).Rand(draw, new(big.Int).Lsh(big.NewInt(1), uint(bits-1)))
			m.SetBit(m, bits-1, 1).SetBit(m, 0, 1)
			all = append(all, api.Dya{Neg: draw.Intn(2) == 0, M: natural(m), E: height - bits})
		}
	}
	return all
}

// between is numbers about the middle of a float that is above 0 and the one above it: the middle, as little off from it as may be, and quarters. Above the greatest float the next one is taken to be 2^1024.
func between(f float64) []api.Dya {
	low, high := number(f), power(1024)
	if f != great {
		high = number(math.Nextafter(f, math.Inf(1)))
	}
	gap := less(high, low).E
	middle := dya.Add(low, power(gap-1))
	return []api.Dya{
		middle, dya.Add(middle, power(gap-2)), less(middle, power(gap-2)),
		dya.Add(middle, power(gap-9)), less(middle, power(gap-9)),
		dya.Add(middle, power(gap-1300)), less(middle, power(gap-1300)),
		dya.Add(low, power(gap-1300)), less(high, power(gap-1300)), less(low, power(gap-1300)), dya.Add(high, power(gap-1300)),
	}
}

// middles is numbers between floats, of all fields, and of both signs.
func middles() []api.Dya {
	draw := rand.New(rand.NewSource(7))
	var all []api.Dya
	for field := uint64(0); field < 2047; field += 1 + field%3 {
		for _, fraction := range []uint64{0, 1, 1<<52 - 2, 1<<52 - 1, draw.Uint64() >> 12} {
			all = append(all, between(bits(0, field, fraction))...)
		}
	}
	for _, f := range []float64{0, small, 2 * small, 3 * small, 0x1p-1022 - small, 0x1p-1022, 0x1p-1021, 1, 2 - 0x1p-52, great, 0x1.ffffffffffffep1023} {
		all = append(all, between(f)...)
	}
	for _, d := range slices.Clone(all) {
		all = append(all, dya.Flip(d))
	}
	return all
}

// TestNear holds answers against the library's rounding, and against the chapter's words: no float is nearer, and of two as near it is the even one.
func TestNear(t *testing.T) {
	for _, d := range append(middles(), drawn()...) {
		if !dya.Right(d) {
			t.Fatal("not right", d)
		}
		got := Near(d)
		if got != nearby(d) {
			t.Fatal(d, got, nearby(d))
		}
		if math.IsInf(got, 0) {
			continue
		}
		off := away(d, got)
		for _, side := range []float64{math.Inf(-1), math.Inf(1)} {
			other := math.Nextafter(got, side)
			if math.IsInf(other, 0) {
				continue
			}
			if c := away(d, other).Cmp(off); c < 0 || c == 0 && math.Float64bits(got)%2 != 0 {
				t.Fatal(d, got, other)
			}
		}
	}
}

func TestNearByHand(t *testing.T) {
	one := power(0)
	for what, c := range map[string]struct {
		d    api.Dya
		want float64
	}{
		"0":                                 {api.Dya{}, 0},
		"0, empty":                          {api.Dya{M: []int{}}, 0},
		"the chapter's example":             {api.Dya{M: []int{3}, E: -2}, 0.75},
		"a half, down to even":              {sum(one, power(-53)), 1},
		"a half, up to even":                {sum(one, power(-52), power(-53)), 1 + 0x1p-51},
		"more than a half":                  {sum(one, power(-53), power(-90)), 1 + 0x1p-52},
		"less than a half":                  {sum(one, power(-52), power(-53), dya.Flip(power(-1000))), 1 + 0x1p-52},
		"a half below a power":              {less(one, power(-54)), 1},
		"less than a half below a power":    {less(one, power(-55)), 1},
		"more than a half below a power":    {less(one, sum(power(-54), power(-200))), 1 - 0x1p-53},
		"53 bits":                           {less(power(53), one), 1<<53 - 1},
		"54 bits, carried":                  {less(power(54), one), 1 << 54},
		"half of the least":                 {power(-1075), 0},
		"less than half of the least":       {less(power(-1075), power(-2000)), 0},
		"more than half of the least":       {sum(power(-1075), power(-2000)), small},
		"one and a half of the least":       {api.Dya{M: []int{3}, E: -1075}, 2 * small},
		"two and a half of the least":       {api.Dya{M: []int{5}, E: -1075}, 2 * small},
		"the least":                         {power(-1074), small},
		"the greatest of field 0, and more": {less(power(-1022), power(-1075)), 0x1p-1022},
		"the greatest of field 0, and less": {less(power(-1022), sum(power(-1075), power(-1100))), 0x1p-1022 - small},
		"in field 0 no more bits":           {sum(power(-1030), power(-1075)), 0x1p-1030},
		"in field 0, to odd":                {sum(power(-1030), power(-1074), power(-1076)), 0x1p-1030 + small},
		"the greatest":                      {less(power(1024), power(971)), great},
		"the least that is infinite":        {less(power(1024), power(970)), math.Inf(1)},
		"the greatest that is not infinite": {less(power(1024), sum(power(970), power(-400))), great},
		"its opposite":                      {less(sum(power(970), power(-400)), power(1024)), -great},
		"the greatest and less than a half": {sum(less(power(1024), power(971)), power(969)), great},
		"2^1024":                            {power(1024), math.Inf(1)},
		"above 2^1024":                      {api.Dya{M: []int{3}, E: 1023}, math.Inf(1)},
		"its opposite, too":                 {dya.Flip(power(1024)), math.Inf(-1)},
		"of the greatest power":             {power(6000), math.Inf(1)},
		"of the least power":                {power(-6000), 0},
		"of the least power, below 0":       {dya.Flip(power(-6000)), 0},
		"the longest of the greatest power": {api.Dya{Neg: true, M: slices.Repeat([]int{top}, 60), E: 6000}, math.Inf(-1)},
		"the longest of the least power":    {api.Dya{M: slices.Repeat([]int{top}, 60), E: -6000}, 0},
		"the longest, carried":              {api.Dya{M: slices.Repeat([]int{top}, 60), E: -1440}, 1},
		"the longest, carried to the least": {api.Dya{M: slices.Repeat([]int{top}, 60), E: -2514}, small},
		"the longest, just below a half":    {api.Dya{M: slices.Repeat([]int{top}, 60), E: -2515}, 0},
		"the longest, carried to infinity":  {api.Dya{M: slices.Repeat([]int{top}, 60), E: -416}, math.Inf(1)},
		"the longest, carried to a power":   {api.Dya{M: slices.Repeat([]int{top}, 60), E: -417}, 0x1p1023},
	} {
		if !dya.Right(c.d) {
			t.Errorf("%s: not right", what)
		}
		if got := Near(c.d); got != c.want {
			t.Errorf("%s: got %v, not %v", what, got, c.want)
		}
	}
}

// TestInOrder is P3.3.
func TestInOrder(t *testing.T) {
	all := append(middles(), drawn()...)
	for _, f := range finite() {
		all = append(all, number(f))
	}
	for _, e := range []int{-6000, -1076, -1075, 1024, 6000} {
		all = append(all, power(e), dya.Flip(power(e)))
	}
	slices.SortFunc(all, dya.Cmp)
	for i, d := range all[1:] {
		if Near(all[i]) > Near(d) {
			t.Fatal(all[i], d)
		}
	}
}

// TestNewMemory is P3: numbers that come in, and their spare room, stay as they are, and one that came out is nobody else's.
func TestNewMemory(t *testing.T) {
	for _, d := range drawn() {
		row := append(slices.Clone(d.M), 77, 77, 77)
		was := slices.Clone(row)
		x := api.Dya{Neg: d.Neg, M: row[:len(d.M)], E: d.E}
		if got := Near(x); got != Near(x) || !slices.Equal(row, was) {
			t.Fatal(d)
		}
	}
	for _, f := range finite() {
		d, _ := Of(f)
		for i := range d.M[:cap(d.M)] {
			d.M[:cap(d.M)][i] = -9
		}
		if again, is := Of(f); !is || !same(again, number(f)) {
			t.Fatal(f, again)
		}
	}
}

// TestWrongNumbers: of numbers that are not right nothing is said, but no call panics, and each ends.
func TestWrongNumbers(t *testing.T) {
	rows := [][]int{nil, {}, {0}, {1}, {2}, {1, 0}, {0, 1}, {0, 0, 0}, {-1}, {1, -1}, {math.MinInt}, {math.MaxInt, math.MinInt}, {1 << 24}, slices.Repeat([]int{top}, 60), slices.Repeat([]int{top}, 301), slices.Repeat([]int{math.MinInt}, 400)}
	for _, m := range rows {
		for _, e := range []int{math.MinInt, math.MinInt + 60, -1 << 40, -1 << 20, -6001, -1, 0, 7, 6001, 1 << 20, 1 << 40, math.MaxInt - 60, math.MaxInt} {
			Near(api.Dya{M: m, E: e})
			Near(api.Dya{Neg: true, M: m, E: e})
		}
	}
}
