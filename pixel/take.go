package pixel

import (
	"celluloid/api"
	"celluloid/bits"
	"celluloid/inflate"
)

// rowUnit divides how many bytes a row of numbers has.
const rowUnit = 4

// head is what stands ahead of the wrapped bytes; colors is how many colours are told there, 0 of the format plain.
type head struct {
	id, w, h, colors int
}

// Take: the bitmap of bytes.
func Take(s string) (Bitmap, api.Errno) {
	h, wrapped, e := takeHead(s)
	if e != api.OK {
		return Bitmap{}, e
	}
	body, e := inflate.Open(wrapped, api.MaxOut)
	if e != api.OK {
		return Bitmap{}, e
	}
	b := Bitmap{ID: h.id, W: h.w, H: h.h, Pixels: h.pixels(body)}
	// Where body is not as it must be there are no pixels, and the rest is right already.
	if !Right(b) {
		return Bitmap{}, api.ErrField
	}
	return b, api.OK
}

// takeHead: what stands ahead of the wrapped bytes, and these.
func takeHead(s string) (head, string, api.Errno) {
	t := &taker{r: bits.Reader{S: s}}
	h := head{id: t.number(2)}
	format := t.number(1)
	t.demand(format == numbered || format == plain, api.ErrField)
	h.w = t.number(2)
	h.h = t.number(2)
	if format == numbered {
		h.colors = t.number(1) + 1
	}
	t.demand(rightSides(h.w, h.h), api.ErrLimit)
	if t.e != api.OK {
		return head{}, "", t.e
	}
	return h, s[t.r.At/8:], api.OK
}

// taker takes one number after another and keeps the first error; behind it nothing is read any more, and all is 0.
type taker struct {
	r bits.Reader
	e api.Errno
}

// number of the next n bytes.
func (t *taker) number(n int) int {
	var v int
	if t.e == api.OK {
		v, t.r, t.e = bits.Little(t.r, n)
	}
	return v
}

// demand tells an error of what was read last, unless there was one ahead of it.
func (t *taker) demand(holds bool, e api.Errno) {
	if t.e == api.OK && !holds {
		t.e = e
	}
}

// pixels that body tells; none, if it has not just as many bytes as it must, or a number is of no colour. Whether they are faint is not asked.
func (h head) pixels(body string) []api.RGBA {
	if h.colors > 0 {
		return h.numberedPixels(body)
	}
	if len(body) != colorBytes*h.w*h.h {
		return nil
	}
	l := make([]api.RGBA, h.w*h.h)
	for i := range l {
		s := body[colorBytes*i:]
		l[i] = api.RGBA{A: int(s[0]), R: int(s[1]), G: int(s[2]), B: int(s[3])}
	}
	return l
}

func (h head) numberedPixels(body string) []api.RGBA {
	row := (h.w + rowUnit - 1) / rowUnit * rowUnit
	if len(body) != colorBytes*h.colors+row*h.h {
		return nil
	}
	colors, numbers := body[:colorBytes*h.colors], body[colorBytes*h.colors:]
	l := make([]api.RGBA, 0, h.w*h.h)
	for y := range h.h {
		for _, n := range []byte(numbers[row*y:][:h.w]) {
			if int(n) >= h.colors {
				return nil
			}
			s := colors[colorBytes*int(n):]
			l = append(l, api.RGBA{R: int(s[0]), G: int(s[1]), B: int(s[2]), A: int(s[3])})
		}
	}
	return l
}
