package field

import (
	"celluloid/api"
	"celluloid/bits"
)

// PutRect: a rectangle behind w.
func PutRect(w bits.Writer, r api.Rect) (bits.Writer, api.Errno) {
	if !RightRect(r) {
		return bits.Writer{}, api.ErrArg
	}
	return behind(w, putNumbers(bits.Writer{}, widthBits, r.Left, r.Right, r.Top, r.Bottom)), api.OK
}

// PutMatrix: a matrix behind w.
func PutMatrix(w bits.Writer, m api.Matrix) (bits.Writer, api.Errno) {
	if !RightMatrix(m) {
		return bits.Writer{}, api.ErrArg
	}
	same := Same()
	scales := m.A != same.A || m.D != same.D
	turns := m.B != same.B || m.C != same.C
	body := putBit(bits.Writer{}, scales)
	if scales {
		body = putNumbers(body, widthBits, m.A, m.D)
	}
	body = putBit(body, turns)
	if turns {
		body = putNumbers(body, widthBits, m.B, m.C)
	}
	return behind(w, putNumbers(body, widthBits, m.X, m.Y)), api.OK
}

// PutCx: a change behind w.
func PutCx(w bits.Writer, c api.Cx) (bits.Writer, api.Errno) {
	if !RightCx(c) {
		return bits.Writer{}, api.ErrArg
	}
	plain := Plain()
	adds, muls := c.Add != plain.Add, c.Mul != plain.Mul
	var told []int
	if muls {
		told = append(told, c.Mul[:]...)
	}
	if adds {
		told = append(told, c.Add[:]...)
	}
	body := putBit(putBit(bits.Writer{}, adds), muls)
	return behind(w, putNumbers(body, widthBitsCx, told...)), api.OK
}

// PutRGBA: a colour behind w.
func PutRGBA(w bits.Writer, c api.RGBA) (bits.Writer, api.Errno) {
	if !RightRGBA(c) {
		return bits.Writer{}, api.ErrArg
	}
	return bits.PutBytes(w, string([]byte{byte(c.R), byte(c.G), byte(c.B), byte(c.A)})), api.OK
}

// behind lays a body that was written for itself behind w: so w's bytes, which may be many, are copied once, and not for each number.
func behind(w bits.Writer, body bits.Writer) bits.Writer {
	return bits.PutBytes(w, body.S)
}

// putBit lays one bit; it fits always, so there is no error to ask for.
func putBit(w bits.Writer, set bool) bits.Writer {
	v := 0
	if set {
		v = 1
	}
	w, _ = bits.PutPlain(w, v, 1)
	return w
}

// putNumbers lays the width of l in so many bits, and l in that width. What is right has no width that these bits don't hold, so there is no error to ask for.
func putNumbers(w bits.Writer, size int, l ...int) bits.Writer {
	n := bits.Width(l...)
	w, _ = bits.PutPlain(w, n, size)
	for _, v := range l {
		w, _ = bits.PutSigned(w, v, n)
	}
	return w
}
