package curve_test

import "celluloid/api"

// dice are numbers that are always the same ones.
type dice uint64

func (d *dice) roll(count int) int {
	x := uint64(*d)
	x ^= x << 13
	x ^= x >> 7
	x ^= x << 17
	*d = dice(x)
	return int(x>>11) % count
}

// even is an even number that is from -far to far.
func (d *dice) even(far int) int {
	return 2 * (d.roll(far+1) - far/2)
}

// point is an even one, often a near one, at times one at an end.
func (d *dice) point() api.Point {
	far := 1 << (1 + d.roll(24))
	if d.roll(8) == 0 {
		return api.Point{X: (d.roll(3) - 1) * far, Y: (d.roll(3) - 1) * far}
	}
	return api.Point{X: d.even(far), Y: d.even(far)}
}

// curve is one whose points are about as far from one another as they may be.
func (d *dice) curve(far int) [3]api.Point {
	var l [3]api.Point
	at := d.point()
	for i := range l {
		l[i] = api.Point{X: inside(at.X + d.even(far)), Y: inside(at.Y + d.even(far))}
	}
	return l
}

func inside(n int) int { return min(1<<24, max(-1<<24, n)) }

// any is a number of any size.
func (d *dice) any() int {
	switch d.roll(4) {
	case 0:
		return []int{most, least, most - 1, least + 1, 1 << 24, -1 << 24, 1<<24 + 2, -1<<24 - 2}[d.roll(8)]
	case 1:
		return (d.roll(2)*2 - 1) << d.roll(63)
	}
	return d.roll(1<<26) - 1<<25
}
