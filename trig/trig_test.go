package trig

import (
	"math"
	"math/rand"
	"testing"

	"overtone/api"
	"overtone/circ"
	"overtone/flo"
	"overtone/turn"
)

const (
	big40  = 1 << 40
	maxPro = 30 // of a greater Q nothing is promised
)

// edges is angles about all eighths of a turn, of few parts and of many, in many forms.
func edges() []api.Turn {
	var told []api.Turn
	for _, q := range []int{3, 4, 12, 13, 26, 27, 29, maxPro} {
		for eighth := -8; eighth <= 16; eighth++ {
			for off := -1; off <= 1; off++ {
				told = append(told, api.Turn{K: eighth<<(q-3) + off, Q: q})
			}
		}
	}
	for q := range maxPro + 1 {
		told = append(told, api.Turn{Q: q}, api.Turn{K: big40, Q: q}, api.Turn{K: -big40, Q: q}, api.Turn{K: big40 - 1, Q: q}, api.Turn{K: 1 - big40, Q: q}, api.Turn{K: 1, Q: q}, api.Turn{K: -1, Q: q})
	}
	return told
}

// drawn is so many right angles, that are drawn from a fixed beginning: of all numbers of parts, great and small.
func drawn(from int64, many int) []api.Turn {
	draw := rand.New(rand.NewSource(from))
	var told []api.Turn
	for range many {
		k := draw.Intn(2*big40+1) - big40
		told = append(told, api.Turn{K: k >> draw.Intn(41), Q: draw.Intn(maxPro + 1)})
	}
	return told
}

// hard is the angles of 2^30 parts whose cosines and sines come nearest to the middle of two floats: what encloses them with few bits does not tell to which they are nearer.
func hard() []api.Turn {
	var told []api.Turn
	for _, k := range []int{1328778, 60, 51401, 67312, 7, 192342, 134, 4861456, 1025, 1717061, 10045, 12575, 94391, 62497302, 5076, 1, 36960459, 2172155, 29161, 19, 301715, 36904493, 88363791} {
		told = append(told, api.Turn{K: k, Q: maxPro})
	}
	return told
}

// TestFewParts is H1 of all angles of few parts, over more than one turn.
func TestFewParts(t *testing.T) {
	for q := range 9 {
		for k := -1 << q; k <= 2<<q; k++ {
			held(t, api.Turn{K: k, Q: q})
		}
	}
}

// TestManyParts is H1 at the edges, and all about.
func TestManyParts(t *testing.T) {
	held(t, edges()...)
	held(t, drawn(8, 600)...)
}

// TestHard is H1 where few bits don't tell; it fails, too, if no angle is one for which they don't.
func TestHard(t *testing.T) {
	anew := 0
	for _, a := range hard() {
		for eighth := range 8 {
			held(t, turn.Add(a, api.Turn{K: eighth, Q: 3}), turn.Flip(turn.Add(a, api.Turn{K: eighth, Q: 3})))
		}
		for _, i := range []api.Ivl{circ.Cos(a, first), circ.Sin(a, first)} {
			if !flo.Same(flo.Near(i.Lo), flo.Near(i.Hi)) {
				anew++
			}
		}
	}
	if anew < 5 {
		t.Error("too few are done anew", anew)
	}
}

// TestEnds holds that the float that both ends have is told, once they have one, and not asked for any farther; and that the work ends where they never have.
func TestEnds(t *testing.T) {
	asked := 0
	told := nearest(func(bits int) api.Ivl {
		asked++
		return circ.Cos(api.Turn{K: 1, Q: 3}, bits)
	})
	if told != math.Sqrt2/2 || asked != 1 {
		t.Error(told, asked)
	}
	last := 0
	told = nearest(func(bits int) api.Ivl {
		if bits <= last || bits > api.MaxBits {
			t.Fatal("no more bits than", last, bits)
		}
		last = bits
		return api.Ivl{Hi: api.Dya{M: []int{1}}}
	})
	if told != 0 || last < 120 {
		t.Error(told, last)
	}
}

func TestByHand(t *testing.T) {
	for i, c := range []struct{ got, want float64 }{
		{Cos(api.Turn{K: 1, Q: 3}), 0.7071067811865476},
		{Sin(api.Turn{K: 1, Q: 3}), 0.7071067811865476},
		{Cos(api.Turn{K: 3, Q: 3}), -0.7071067811865476},
		{Sin(api.Turn{K: 5, Q: 3}), -0.7071067811865476},
		{Cos(api.Turn{K: 1, Q: 4}), 0.9238795325112867},
		{Sin(api.Turn{K: 1, Q: 4}), 0.3826834323650898},
		{Cos(api.Turn{}), 1},
		{Sin(api.Turn{}), 0},
		{Cos(api.Turn{K: 1, Q: 2}), 0},
		{Sin(api.Turn{K: 1, Q: 2}), 1},
		{Cos(api.Turn{K: -7, Q: 1}), -1},
		{Sin(api.Turn{K: -7, Q: 1}), 0},
		{Cos(api.Turn{K: 3, Q: 2}), 0},
		{Sin(api.Turn{K: 3, Q: 2}), -1},
		{Cos(api.Turn{K: 9, Q: 0}), 1},
		{Cos(api.Turn{K: 1, Q: 26}), 1 - 0x1p-53*39},
		{Cos(api.Turn{K: 1, Q: 30}), 1},
		{Sin(api.Turn{K: 1, Q: 30}), 0x1.921fb54442d18p-28},
		{Sin(api.Turn{K: -1, Q: 30}), -0x1.921fb54442d18p-28},
		{Cos(api.Turn{K: 1<<28 - 1, Q: 30}), 0x1.921fb54442d18p-28},
		{Cos(api.Turn{K: 1<<28 + 1, Q: 30}), -0x1.921fb54442d18p-28},
	} {
		if c.got != c.want {
			t.Error(i, c.got, c.want)
		}
	}
}
