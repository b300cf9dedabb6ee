package nat

import "overtone/api"

const (
	pair      = 2 * api.Limb // the bits that one limb of a root comes from
	guessBits = 36           // of a guess's divisor: what is divided has a limb more, and so is below 2^62
)

// Root is the greatest natural whose square is at most a. It goes limb by limb, as by hand, a pair of limbs being brought down for each.
func Root(a []int) []int {
	if len(a) == 0 || !Right(a) {
		return nil
	}
	// The first limb of the root is made at least 2^23: guesses of the others are near then.
	up := (pair - 1 - (Len(a)-1)%pair) / 2
	wide := Shl(a, 2*up)
	place := len(wide) - 2
	root, rest := firstLimb(wide[place+1]<<api.Limb + wide[place])
	for place -= 2; place >= 0; place -= 2 {
		root, rest = nextLimb(root, rest, wide[place+1], wide[place])
	}
	return Shr(root, up)
}

// firstLimb is the root of n, which is 1 to 2^48 - 1, and what its square leaves. From above, Newton's steps go down to the root and no farther.
func firstLimb(n int) ([]int, []int) {
	root := 1 << api.Limb
	for next := (root + n/root) / 2; next < root; next = (root + n/root) / 2 {
		root = next
	}
	return Of(root), Of(n - root*root)
}

// nextLimb is the root with one more limb, and what its square leaves, when the limbs high and low are brought down behind the rest.
func nextLimb(root, rest []int, high, low int) ([]int, []int) {
	line := behind(rest, high)
	all := behind(line, low)
	double := Shl(root, 1)
	for limb := guess(line, double); ; limb-- {
		if left, fits := Sub(all, Mul(behind(double, limb), Of(limb))); fits {
			return behind(root, limb), left
		}
	}
}

// guess is line over what double's highest bits are: never below the root's next limb, and above it by 2 at most.
func guess(line, double []int) int {
	drop := max(Len(double)-guessBits, 0)
	much, _ := Int(Shr(line, drop))
	by, _ := Int(Shr(double, drop))
	return min(much/by, top)
}
