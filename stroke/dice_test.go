package stroke_test

import (
	"celluloid/api"
	"celluloid/stroke"
)

// dice are numbers that are always the same ones.
type dice uint64

func (d *dice) roll(count int) int {
	x := uint64(*d)
	x ^= x << 13
	x ^= x >> 7
	x ^= x << 17
	*d = dice(x)
	return int(x>>11) % count
}

// even is an even number from -far to far.
func (d *dice) even(far int) int {
	return 2 * (d.roll(far+1) - far/2)
}

// far is a number from -far to far, odd or even.
func (d *dice) far(far int) int {
	return d.roll(2*far+1) - far
}

// end is a piece's, often near, at times as far as can be.
func (d *dice) end() api.Point {
	far := 1 << (1 + d.roll(24))
	if d.roll(8) == 0 {
		return api.Point{X: (d.roll(3) - 1) * far, Y: (d.roll(3) - 1) * far}
	}
	return api.Point{X: d.even(far), Y: d.even(far)}
}

// near is a piece's end in a frame, or a little beside.
func (d *dice) near(w int, h int) api.Point {
	return api.Point{X: 2*d.roll(32*w+64) - 64, Y: 2*d.roll(32*h+64) - 64}
}

// line is mostly one of few.
func (d *dice) line() int {
	if d.roll(4) == 0 {
		return 1 + d.roll(255)
	}
	return 1 + d.roll(4)
}

// width is mostly a narrow one.
func (d *dice) width() int {
	switch d.roll(8) {
	case 0:
		return []int{1, 2, 1<<20 - 1, 1 << 20}[d.roll(4)]
	case 1:
		return 1 + d.roll(1<<d.roll(21))
	}
	return 1 + d.roll(80)
}

// piece is one by a frame; at times of any place.
func (d *dice) piece(w int, h int) stroke.Piece {
	p := stroke.Piece{A: d.end(), B: d.end(), Line: d.line(), Width: d.width()}
	if d.roll(6) > 0 {
		p.A = d.near(w, h)
	}
	switch d.roll(8) {
	case 0:
		p.B = p.A
	case 1:
		p.B.X = p.A.X
	case 2:
		p.B.Y = p.A.Y
	case 3:
	default:
		p.B = d.near(w, h)
	}
	return p
}

func (d *dice) pieces(count int, w int, h int) []stroke.Piece {
	var l []stroke.Piece
	for range count {
		l = append(l, d.piece(w, h))
	}
	return l
}

// beside is a sample of any parts by a piece: about as far from a point of it as half of its width.
func (d *dice) beside(p stroke.Piece) (int, int) {
	part := d.roll(65)
	x, y := p.A.X+(p.B.X-p.A.X)/64*part, p.A.Y+(p.B.Y-p.A.Y)/64*part
	reach := p.Width + 2
	return keep(x + d.far(reach)), keep(y + d.far(reach))
}

// keep is a number that is not too far.
func keep(n int) int {
	return min(max(-1<<24, n), 1<<24)
}

// matrix is a right one.
func (d *dice) matrix() api.Matrix {
	far := 1 << (1 + d.roll(22))
	m := api.Matrix{A: d.far(far), B: d.far(far), C: d.far(far), D: d.far(far), X: d.far(1 << 20), Y: d.far(1 << 20)}
	switch d.roll(4) {
	case 0:
		m.B, m.C = 0, 0
	case 1:
		m.C, m.D = -m.B, m.A
	}
	return m
}

// any is a number of any size.
func (d *dice) any() int {
	switch d.roll(4) {
	case 0:
		return []int{most, least, most - 1, least + 1, 1 << 24, -1 << 24, 1<<24 + 2, -1<<24 - 2, 1 << 20, 1<<20 + 1}[d.roll(10)]
	case 1:
		return (d.roll(2)*2 - 1) << d.roll(63)
	}
	return d.roll(1<<26) - 1<<25
}

// muddle changes one number of a piece.
func (d *dice) muddle(p *stroke.Piece) {
	*[]*int{&p.A.X, &p.A.Y, &p.B.X, &p.B.Y, &p.Line, &p.Width}[d.roll(6)] = d.any()
}
