package nat

import "overtone/api"

// carry is what is left of a sum for the next limb; below 0 it is what the sum borrows.
type carry int

// limb is the lowest limb of the sum with what was left over, and keeps the rest. The shift goes downwards, so that the limb is right below 0, too.
func (c *carry) limb(sum int) int {
	sum += int(*c)
	*c = carry(sum >> api.Limb)
	return sum & top
}

// sums fills a row, and is the natural of it: how tells the sum at each place, keep takes a limb of it and carries the rest.
func sums(out []int, how func(place int) int, keep func(sum int) int) []int {
	for place := range out {
		out[place] = keep(how(place))
	}
	return trimmed(out)
}

// trimmed leaves out the noughts at the end, which no natural has.
func trimmed(a []int) []int {
	n := len(a)
	for n > 0 && a[n-1] == 0 {
		n--
	}
	return a[:n]
}

// at is the limb at a place, 0 past the end.
func at(a []int, place int) int {
	if place >= len(a) {
		return 0
	}
	return a[place]
}

// behind is a natural with one more limb, below its lowest.
func behind(a []int, limb int) []int {
	out := make([]int, len(a)+1)
	out[0] = limb
	copy(out[1:], a)
	return trimmed(out)
}
