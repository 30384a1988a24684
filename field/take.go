package field

import (
	"celluloid/api"
	"celluloid/bits"
)

// TakeRect: the rectangle that stands at r, and the reader behind it.
func TakeRect(r bits.Reader) (api.Rect, bits.Reader, api.Errno) {
	t := begin(r)
	l := t.four(t.plain(widthBits))
	rect := api.Rect{Left: l[0], Right: l[1], Top: l[2], Bottom: l[3]}
	return end(t, rect, RightRect(rect))
}

// TakeMatrix: the matrix that stands at r, and the reader behind it.
func TakeMatrix(r bits.Reader) (api.Matrix, bits.Reader, api.Errno) {
	t := begin(r)
	m := Same()
	if t.bit() {
		m.A, m.D = t.pair()
	}
	if t.bit() {
		m.B, m.C = t.pair()
	}
	m.X, m.Y = t.pair()
	return end(t, m, RightMatrix(m))
}

// TakeCx: the change that stands at r, and the reader behind it.
func TakeCx(r bits.Reader) (api.Cx, bits.Reader, api.Errno) {
	t := begin(r)
	c := Plain()
	adds := t.bit()
	muls := t.bit()
	n := t.plain(widthBitsCx)
	if muls {
		c.Mul = t.four(n)
	}
	if adds {
		c.Add = t.four(n)
	}
	return end(t, c, RightCx(c))
}

// TakeRGBA: the colour that stands at r, and the reader behind it. Four bytes are always one that is right.
func TakeRGBA(r bits.Reader) (api.RGBA, bits.Reader, api.Errno) {
	s, next, e := bits.Bytes(r, 4)
	if e != api.OK {
		return api.RGBA{}, bits.Reader{}, e
	}
	return api.RGBA{R: int(s[0]), G: int(s[1]), B: int(s[2]), A: int(s[3])}, next, api.OK
}

// taker takes fields one by one and keeps the first error, so that it is asked for once, at the end.
type taker struct {
	r bits.Reader
	e api.Errno
}

// begin is a taker from the next whole byte on.
func begin(r bits.Reader) *taker {
	return &taker{r: bits.Align(r)}
}

// end tells what was taken, and the reader behind it. Whether it is right is asked of a whole one alone: an error of the bits goes ahead.
func end[T any](t *taker, v T, right bool) (T, bits.Reader, api.Errno) {
	e := t.e
	if e == api.OK && !right {
		e = api.ErrField
	}
	if e != api.OK {
		var none T
		return none, bits.Reader{}, e
	}
	return v, bits.Align(t.r), api.OK
}

// take is the next n bits, read in one of layer 2's ways; 0 behind an error.
func (t *taker) take(read func(bits.Reader, int) (int, bits.Reader, api.Errno), n int) int {
	if t.e != api.OK {
		return 0
	}
	v := 0
	v, t.r, t.e = read(t.r, n)
	return v
}

func (t *taker) plain(n int) int {
	return t.take(bits.Plain, n)
}

func (t *taker) signed(n int) int {
	return t.take(bits.Signed, n)
}

func (t *taker) bit() bool {
	return t.plain(1) == 1
}

// four numbers of n bits each.
func (t *taker) four(n int) [4]int {
	var l [4]int
	for i := range l {
		l[i] = t.signed(n)
	}
	return l
}

// pair is two numbers, behind their width.
func (t *taker) pair() (int, int) {
	n := t.plain(widthBits)
	first := t.signed(n)
	second := t.signed(n)
	return first, second
}
