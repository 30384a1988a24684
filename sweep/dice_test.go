package sweep_test

import (
	"celluloid/api"
	"celluloid/sweep"
)

// dice are numbers that are always the same ones.
type dice uint64

func (d *dice) roll(count int) int {
	x := uint64(*d)
	x ^= x << 13
	x ^= x >> 7
	x ^= x << 17
	*d = dice(x)
	return int(x>>11) % count
}

// even is an even number from -far to far.
func (d *dice) even(far int) int {
	return 2 * (d.roll(far+1) - far/2)
}

// odd is an odd number from -far to far, which is even.
func (d *dice) odd(far int) int {
	return 2*d.roll(far) - far + 1
}

// end is a segment's, often near, at times as far as can be.
func (d *dice) end() api.Point {
	far := 1 << (1 + d.roll(24))
	if d.roll(8) == 0 {
		return api.Point{X: (d.roll(3) - 1) * far, Y: (d.roll(3) - 1) * far}
	}
	return api.Point{X: d.even(far), Y: d.even(far)}
}

// near is a segment's end in a frame, or a little beside.
func (d *dice) near(w int, h int) api.Point {
	return api.Point{X: 2*d.roll(32*w+32) - 32, Y: 2*d.roll(32*h+32) - 32}
}

// style is mostly one of few.
func (d *dice) style() int {
	switch d.roll(5) {
	case 0:
		return 0
	case 1:
		return d.roll(256)
	case 2:
		return []int{63, 64, 127, 128, 191, 192, 254, 255}[d.roll(8)]
	}
	return 1 + d.roll(3)
}

// seg is a segment of any place.
func (d *dice) seg() sweep.Seg {
	return sweep.Seg{A: d.end(), B: d.end(), Left: d.style(), Right: d.style()}
}

// segs are segments by a frame; at times one of them is of any place.
func (d *dice) segs(count int, w int, h int) []sweep.Seg {
	var l []sweep.Seg
	for range count {
		s := d.seg()
		if d.roll(6) > 0 {
			s.A = d.near(w, h)
		}
		if d.roll(6) > 0 {
			s.B = d.near(w, h)
		}
		l = append(l, s)
	}
	return l
}

// face goes around some points, with a style within.
func (d *dice) face(corners int, style int, w int, h int) []sweep.Seg {
	var l []api.Point
	for range corners {
		l = append(l, d.near(w, h))
	}
	return around(style, l...)
}

// any is a number of any size.
func (d *dice) any() int {
	switch d.roll(4) {
	case 0:
		return []int{most, least, most - 1, least + 1, 1 << 24, -1 << 24, 1<<24 + 2, -1<<24 - 2}[d.roll(8)]
	case 1:
		return (d.roll(2)*2 - 1) << d.roll(63)
	}
	return d.roll(1<<26) - 1<<25
}

// muddle changes one number of a segment.
func (d *dice) muddle(s *sweep.Seg) {
	*[]*int{&s.A.X, &s.A.Y, &s.B.X, &s.B.Y, &s.Left, &s.Right}[d.roll(6)] = d.any()
}
