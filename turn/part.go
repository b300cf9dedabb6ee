package turn

import "overtone/api"

// eighths is how many of them a turn has.
const eighths = 8

// places tells of each eighth whether cosine and sine are swapped, whether the cosine is the opposite, whether the sine is.
var places = [eighths][3]bool{
	{false, false, false},
	{true, false, false},
	{true, true, false},
	{false, true, false},
	{false, true, true},
	{true, true, true},
	{true, false, true},
	{false, false, true},
}

// Split is the part of t.
func Split(t api.Turn) api.Part {
	t = Form(t)
	eighth := (eighths * t.K) >> t.Q
	rest, _ := measures(eighth)
	return api.Part{Eighth: eighth, Rest: rest(t)}
}

// Join is the angle, in its form, whose part p is; 0, if there is none. Rests in their form are alike only as equal structs: so p is held against the part that the angle has.
func Join(p api.Part) api.Turn {
	_, angle := measures(p.Eighth)
	t := angle(p.Rest)
	if Split(t) != p {
		return api.Turn{}
	}
	return t
}

// Place tells whether the cosine of an angle in the eighth is, but for its sign, the sine of its rest, and the sine the cosine; whether its cosine is the opposite; whether its sine is.
func Place(eighth int) (bool, bool, bool) {
	if eighth < 0 || eighth >= eighths {
		return false, false, false
	}
	return places[eighth][0], places[eighth][1], places[eighth][2]
}

// measures tells how an angle of an eighth is taken to its rest, and how the rest is taken back to it. Both are counted from the quarter that the eighth begins with, if it is even, or ends with; what is taken from an end twice is what it was.
func measures(eighth int) (rest, angle func(t api.Turn) api.Turn) {
	quarter := reduced((eighth+1)/2, 2)
	if eighth%2 == 1 {
		left := func(t api.Turn) api.Turn { return Add(quarter, Flip(t)) }
		return left, left
	}
	rest = func(t api.Turn) api.Turn { return Add(t, Flip(quarter)) }
	angle = func(t api.Turn) api.Turn { return Add(t, quarter) }
	return rest, angle
}
