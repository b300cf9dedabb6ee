package circ

import (
	"iter"

	"overtone/api"
	"overtone/dya"
	"overtone/ivl"
	"overtone/turn"
)

// halves tells the half of t's whole turns, the half of that, and so on, down to t itself, which is in its form.
func halves(t api.Turn) iter.Seq[api.Turn] {
	return func(yield func(api.Turn) bool) {
		for q := 1; q <= t.Q; q++ {
			if !yield(api.Turn{K: t.K, Q: q}) {
				return
			}
		}
	}
}

// cosine encloses the cosine of t, which is in its form, with roots of so many bits. It goes from that of whole turns, which is 1, from half to half.
func cosine(t api.Turn, bits int) api.Ivl {
	one := ivl.Point(dya.Of(1))
	c := one
	// Twice the square of a half angle's cosine is 1 and the cosine of the whole; this is at least -1, and so are both ends, since 1 has few bits: so there is a root.
	size := func() api.Ivl {
		root, _ := ivl.Root(ivl.Shift(ivl.Add(c, one), -1), bits)
		return root
	}
	for half := range halves(t) {
		c = size()
		if _, below, _ := turn.Place(turn.Split(half).Eighth); below {
			c = ivl.Flip(c)
		}
	}
	return c
}
