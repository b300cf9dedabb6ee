package ivl

import (
	"iter"

	"overtone/api"
	"overtone/dya"
)

// corners tells the products of an end of a and an end of b, all four.
func corners(a, b api.Ivl) iter.Seq[api.Dya] {
	return func(yield func(api.Dya) bool) {
		for _, x := range [2]api.Dya{a.Lo, a.Hi} {
			for _, y := range [2]api.Dya{b.Lo, b.Hi} {
				if !yield(dya.Mul(x, y)) {
					return
				}
			}
		}
	}
}

// hull is the least enclosure of all numbers that are told.
func hull(told iter.Seq[api.Dya]) api.Ivl {
	var all api.Ivl
	begun := false
	fold := func(d api.Dya) {
		switch {
		case !begun:
			all, begun = Point(d), true
		case dya.Cmp(d, all.Lo) < 0:
			all.Lo = d
		case dya.Cmp(d, all.Hi) > 0:
			all.Hi = d
		}
	}
	for d := range told {
		fold(d)
	}
	return all
}
