package flo

import "math"

const (
	fractionBits = 52
	natBits      = fractionBits + 1 // a float's natural is below 2^53
	topField     = 1<<11 - 1        // of the infinities, and of what is no number
	least        = -1074            // no float has a lesser power of two
	most         = 1024             // finite floats are below 2^1024
)

// parts is a float's bits: its sign, the field that tells its power of two, its fraction. Floats that are alike have the same parts, though not always the same bits.
type parts [3]int

const (
	sign = iota
	field
	fraction
)

var (
	infinity  = parts{0, topField, 0}
	notNumber = parts{0, topField, 1}
)

// apart is a float's parts. Both noughts, and all that are no numbers, are made one.
func apart(f float64) parts {
	bits := math.Float64bits(f)
	p := parts{int(bits >> 63), int(bits >> fractionBits & topField), int(bits & (1<<fractionBits - 1))}
	switch {
	case p[field] == 0 && p[fraction] == 0:
		return parts{}
	case p[field] == topField && p[fraction] != 0:
		return notNumber
	}
	return p
}

// scaled is the natural of a finite float's size, and the power of two that goes with it. Of field 0 the highest bit is not meant, and the power is that of field 1.
func (p parts) scaled() (int, int) {
	if p[field] == 0 {
		return p[fraction], least
	}
	return 1<<fractionBits + p[fraction], p[field] - 1 + least
}

// place is how many floats there are from 0 on to this one, below 0 if it is: so floats that stand side by side have places side by side.
func (p parts) place() int {
	size := p[field]<<fractionBits + p[fraction]
	if p[sign] == 1 {
		return -size
	}
	return size
}

// at is the float at a place.
func at(place int) float64 {
	f := math.Float64frombits(uint64(max(place, -place)))
	if place < 0 {
		return -f
	}
	return f
}
