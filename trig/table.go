package trig

import (
	"overtone/api"
	"overtone/turn"
)

// maxLog is how many angles, as a power of two, a turn's table has at most.
const maxLog = 12

// pair is an angle's cosine and sine.
type pair struct{ cos, sin float64 }

// Table are the cosines and the sines of k parts of 2^q, for k from 0 on, so many; none, of numbers that may not be. An angle's are, but for signs, those of its rest, which up to eight angles of a turn share: so each rest is asked for once.
func Table(q int, many int) api.Vec {
	if q < 0 || q > maxLog || many < 0 || many > 1<<q {
		return api.Vec{}
	}
	of := once(func(rest api.Turn) pair { return pair{cos: Cos(rest), sin: Sin(rest)} })
	pairs := table(many, func(k int) pair {
		part := turn.Split(api.Turn{K: k, Q: q})
		return of(part.Rest).from(part.Eighth)
	})
	return api.Vec{
		Re: table(many, func(k int) float64 { return pairs[k].cos }),
		Im: table(many, func(k int) float64 { return pairs[k].sin }),
	}
}

// from is the pair of the angle in an eighth whose rest's pair p is. An opposite is taken off 0, so that 0 stays the same nought as Cos and Sin answer.
func (p pair) from(eighth int) pair {
	swapped, left, below := turn.Place(eighth)
	if swapped {
		p.cos, p.sin = p.sin, p.cos
	}
	if left {
		p.cos = 0 - p.cos
	}
	if below {
		p.sin = 0 - p.sin
	}
	return p
}

// table is what is told of each place from 0 on, so many.
func table[T any](many int, tell func(k int) T) []T {
	row := make([]T, many)
	for k := range row {
		row[k] = tell(k)
	}
	return row
}

// once tells what f does, and asks f for nothing twice.
func once[K comparable, V any](f func(K) V) func(K) V {
	told := map[K]V{}
	return func(k K) V {
		v, is := told[k]
		if !is {
			v = f(k)
			told[k] = v
		}
		return v
	}
}
