package trig

import (
	"math"
	"slices"
	"testing"

	"overtone/api"
)

// edgesOf is numbers of angles of a table: about none, about all eighths, all.
func edgesOf(q int) []int {
	told := []int{0, 1}
	for eighth := 1; eighth <= 8; eighth++ {
		for off := -1; off <= 1; off++ {
			if k := eighth<<q/8 + off; 0 <= k && k <= 1<<q {
				told = append(told, k)
			}
		}
	}
	return told
}

// alike tells whether two tables are.
func alike(a, b api.Vec) bool { return slices.Equal(a.Re, b.Re) && slices.Equal(a.Im, b.Im) }

// TestTable is H2: each number is what Cos and Sin answer of its angle, in a whole table as in a part of one.
func TestTable(t *testing.T) {
	for q := range 13 {
		whole := api.Vec{}
		for k := range 1 << q {
			whole.Re = append(whole.Re, Cos(api.Turn{K: k, Q: q}))
			whole.Im = append(whole.Im, Sin(api.Turn{K: k, Q: q}))
		}
		for _, many := range edgesOf(q) {
			if got := Table(q, many); !alike(got, api.Vec{Re: whole.Re[:many], Im: whole.Im[:many]}) {
				t.Fatal(q, many, got)
			}
		}
	}
}

// TestTableSums holds tables against the tests' own sums.
func TestTableSums(t *testing.T) {
	for _, q := range []int{0, 1, 2, 3, 4, 7, 11} {
		v := Table(q, 1<<q)
		for k := range v.Re {
			c, s := meant(api.Turn{K: k, Q: q})
			near(t, v.Re[k], c, "cosine", k, q)
			near(t, v.Im[k], s, "sine", k, q)
		}
	}
}

func TestTableByHand(t *testing.T) {
	r := 0.7071067811865476
	for i, c := range []struct{ got, want api.Vec }{
		{Table(0, 0), api.Vec{}},
		{Table(0, 1), api.Vec{Re: []float64{1}, Im: []float64{0}}},
		{Table(1, 2), api.Vec{Re: []float64{1, -1}, Im: []float64{0, 0}}},
		{Table(2, 3), api.Vec{Re: []float64{1, 0, -1}, Im: []float64{0, 1, 0}}},
		{Table(3, 8), api.Vec{Re: []float64{1, r, 0, -r, -1, -r, 0, r}, Im: []float64{0, r, 1, r, 0, -r, -1, -r}}},
		{Table(4, 2), api.Vec{Re: []float64{1, 0.9238795325112867}, Im: []float64{0, 0.3826834323650898}}},
		{Table(12, 0), api.Vec{}},
		{Table(12, 1), api.Vec{Re: []float64{1}, Im: []float64{0}}},
	} {
		if !alike(c.got, c.want) {
			t.Error(i, c.got, c.want)
		}
	}
}

// TestTableMemory is P3: what comes out is new memory, spare room too, both rows apart from one another, and nothing is kept that could be written over.
func TestTableMemory(t *testing.T) {
	for _, many := range []int{1, 5, 16} {
		was, got, other := Table(4, many), Table(4, many), Table(4, many)
		spoil(got.Re)
		if !slices.Equal(got.Im, was.Im) {
			t.Error("both rows share", many)
		}
		spoil(got.Im)
		if !alike(other, was) || !alike(Table(4, many), was) {
			t.Error("tables share", many)
		}
	}
}

// spoil writes over a row and its spare room.
func spoil(row []float64) {
	row = row[:cap(row)]
	for i := range row {
		row[i] = math.NaN()
	}
}

// TestOnce holds that of each key is asked once, whatever comes of it.
func TestOnce(t *testing.T) {
	asked := map[int]int{}
	of := once(func(k int) string {
		asked[k]++
		return string(rune('a' + k))[:k%2]
	})
	for _, k := range []int{1, 2, 1, 1, 2, 3, 2} {
		if got := of(k); len(got) != k%2 {
			t.Error(k, got)
		}
	}
	if len(asked) != 3 || asked[1] != 1 || asked[2] != 1 || asked[3] != 1 {
		t.Error(asked)
	}
}
