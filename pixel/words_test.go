package pixel_test

import (
	"math"

	"celluloid/api"
	"celluloid/deflate"
	"celluloid/inflate"
	"celluloid/pixel"
)

// The chapter's words once more, with layers 5 and 6 for what is wrapped, and with nothing of this layer: what the tests hold the layer against.

// Numbers that nothing holds.
const (
	most  = math.MaxInt64
	least = math.MinInt64
)

// room is how many bytes may be unpacked.
const room = 1 << 18

// wordsRight: is it right?
func wordsRight(b pixel.Bitmap) bool {
	if b.ID < 0 || b.ID > 65535 || b.W < 1 || b.W > 64 || b.H < 1 || b.H > 64 || len(b.Pixels) != b.W*b.H {
		return false
	}
	for _, c := range b.Pixels {
		for _, v := range []int{c.R, c.G, c.B, c.A} {
			if v < 0 || v > 255 || v > c.A {
				return false
			}
		}
	}
	return true
}

// wordsPut are a right bitmap's bytes.
func wordsPut(b pixel.Bitmap) string {
	return ahead(b.ID, 5, b.W, b.H) + closed(colors(b.Pixels))
}

// ahead is what stands ahead of what is wrapped, up to H.
func ahead(id int, format int, w int, h int) string {
	return little(id, 2) + little(format, 1) + little(w, 2) + little(h, 2)
}

// colors are colours as the format 5 has them.
func colors(l []api.RGBA) string {
	var s []byte
	for _, c := range l {
		s = append(s, byte(c.A), byte(c.R), byte(c.G), byte(c.B))
	}
	return string(s)
}

// table is colours as the format 3 has them.
func table(l []api.RGBA) string {
	var s []byte
	for _, c := range l {
		s = append(s, byte(c.R), byte(c.G), byte(c.B), byte(c.A))
	}
	return string(s)
}

// little is a number in n bytes, the lowest first.
func little(v int, n int) string {
	var s []byte
	for range n {
		s = append(s, byte(v%256))
		v /= 256
	}
	return string(s)
}

// closed are bytes as layer 6 wraps them; they must not be too many.
func closed(s string) string {
	w, e := deflate.Close(s)
	if e != api.OK {
		panic("too many bytes to be wrapped")
	}
	return w
}

// number is that of bytes, the lowest first.
func number(s string) int {
	n := 0
	for i := len(s) - 1; i >= 0; i-- {
		n = 256*n + int(s[i])
	}
	return n
}

// wordsTake is the bitmap of bytes, or the first error, by the words.
func wordsTake(s string) (pixel.Bitmap, api.Errno) {
	if len(s) < 3 {
		return pixel.Bitmap{}, api.ErrShort
	}
	wrapped := 7
	switch s[2] {
	case 3:
		wrapped = 8
	case 5:
	default:
		return pixel.Bitmap{}, api.ErrField
	}
	if len(s) < wrapped {
		return pixel.Bitmap{}, api.ErrShort
	}
	b := pixel.Bitmap{ID: number(s[:2]), W: number(s[3:5]), H: number(s[5:7])}
	if b.W == 0 || b.W > 64 || b.H == 0 || b.H > 64 {
		return pixel.Bitmap{}, api.ErrLimit
	}
	body, e := inflate.Open(s[wrapped:], room)
	if e != api.OK {
		return pixel.Bitmap{}, e
	}
	if s[2] == 3 {
		b.Pixels = wordsNumbered(body, int(s[7])+1, b.W, b.H)
	} else {
		b.Pixels = wordsColors(body, b.W, b.H)
	}
	if !wordsRight(b) {
		return pixel.Bitmap{}, api.ErrField
	}
	return b, api.OK
}

// wordsColors are the pixels of the format 5; none, if there are not just as many bytes.
func wordsColors(s string, w int, h int) []api.RGBA {
	if len(s) != 4*w*h {
		return nil
	}
	var l []api.RGBA
	for ; s != ""; s = s[4:] {
		l = append(l, api.RGBA{A: int(s[0]), R: int(s[1]), G: int(s[2]), B: int(s[3])})
	}
	return l
}

// wordsNumbered are the pixels of the format 3; none, if there are not just as many bytes, or a number is of no colour.
func wordsNumbered(s string, count int, w int, h int) []api.RGBA {
	row := w
	for row%4 != 0 {
		row++
	}
	if len(s) != 4*count+row*h {
		return nil
	}
	var l []api.RGBA
	for i, n := range []byte(s[4*count:]) {
		switch {
		case i%row >= w:
			// It fills up.
		case int(n) >= count:
			return nil
		default:
			c := s[4*int(n):]
			l = append(l, api.RGBA{R: int(c[0]), G: int(c[1]), B: int(c[2]), A: int(c[3])})
		}
	}
	return l
}

// wordsPixel is the pixel of a place.
func wordsPixel(b pixel.Bitmap, x int, y int) api.RGBA {
	if !wordsRight(b) {
		return api.RGBA{}
	}
	for i, c := range b.Pixels {
		if x == i%b.W && y == i/b.W {
			return c
		}
	}
	return api.RGBA{}
}
