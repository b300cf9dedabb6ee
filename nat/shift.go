package nat

import "overtone/api"

// farthest is more than any natural but 0 can be shifted up; what is asked for beyond it is not tried, lest it take all memory.
const farthest = 1 << 20

// Shl is a times 2^k; a, if k is below 0.
func Shl(a []int, k int) []int {
	if len(a) == 0 || k > farthest {
		return nil
	}
	k = max(k, 0)
	whole := k / api.Limb
	out := make([]int, whole+len(a)+1)
	var over carry
	sums(out[whole:], func(place int) int {
		return at(a, place) << (k % api.Limb)
	}, over.limb)
	return trimmed(out)
}

// Shr is a over 2^k, downwards; a, if k is below 0.
func Shr(a []int, k int) []int {
	k = max(k, 0)
	left := a[min(k/api.Limb, len(a)):]
	down := k % api.Limb
	var over carry
	return sums(make([]int, len(left)), func(place int) int {
		return left[place]>>down + at(left, place+1)<<(api.Limb-down)&top
	}, over.limb)
}
