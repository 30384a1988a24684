package movie

import (
	"celluloid/api"
	"celluloid/bits"
	"celluloid/field"
	"celluloid/inflate"
	"celluloid/morph"
	"celluloid/pixel"
	"celluloid/shape"
	"celluloid/tag"
)

// TakeTag: the tag of a Code and a body.
func TakeTag(r tag.Raw) (Tag, api.Errno) {
	t := &taker{r: bits.Reader{S: r.Body}}
	x := takeBody(t, r.Code)
	t.demandEnd()
	if t.e != api.OK {
		return Tag{}, t.e
	}
	return x, api.OK
}

// Decode: the movie of bytes.
func Decode(s string) (Movie, api.Errno) {
	inner, e := takeInner(s)
	if e != api.OK {
		return Movie{}, e
	}
	t := &taker{r: bits.Reader{S: inner}}
	m := Movie{Packed: isPacked(s), Version: int(s[len(plainLetters)])}
	m.Size = take(t, field.TakeRect)
	m.Rate = t.number(2)
	m.Frames = t.number(2)
	list := take(t, takeList)
	t.demandEnd()
	for _, r := range list {
		m.Tags = append(m.Tags, t.tag(r))
	}
	if t.e != api.OK {
		return Movie{}, t.e
	}
	return m, api.OK
}

// takeInner is the inner bytes of a movie's.
func takeInner(s string) (string, api.Errno) {
	if len(s) < headBytes {
		return "", api.ErrShort
	}
	if s[:len(plainLetters)] != plainLetters && !isPacked(s) {
		return "", api.ErrField
	}
	inner := s[headBytes:]
	if isPacked(s) {
		var e api.Errno
		inner, e = inflate.Open(inner, api.MaxOut)
		if e != api.OK {
			return "", e
		}
	}
	if len(inner) > api.MaxOut {
		return "", api.ErrLimit
	}
	length, _, _ := bits.Little(bits.Reader{S: s, At: 8 * (headBytes - lengthBytes)}, lengthBytes)
	if length != headBytes+len(inner) {
		return "", api.ErrField
	}
	return inner, api.OK
}

// isPacked: does it begin as a packed one?
func isPacked(s string) bool {
	return s[:len(packedLetters)] == packedLetters
}

// taker takes one thing after another and keeps the first error; behind it nothing is read any more, and all is 0.
type taker struct {
	r bits.Reader
	e api.Errno
}

// take is the next thing, read in a way of a layer below.
func take[T any](t *taker, read func(bits.Reader) (T, bits.Reader, api.Errno)) T {
	var v T
	if t.e == api.OK {
		v, t.r, t.e = read(t.r)
	}
	return v
}

// number of the next n bytes.
func (t *taker) number(n int) int {
	return take(t, func(r bits.Reader) (int, bits.Reader, api.Errno) { return bits.Little(r, n) })
}

// tag of a Code and a body that were taken already.
func (t *taker) tag(r tag.Raw) Tag {
	var x Tag
	if t.e == api.OK {
		x, t.e = TakeTag(r)
	}
	return x
}

// demand tells an error, unless there was one ahead of it.
func (t *taker) demand(holds bool, e api.Errno) {
	if t.e == api.OK && !holds {
		t.e = e
	}
}

// demandEnd: no more may stand behind what was read.
func (t *taker) demandEnd() {
	t.demand(t.r.At == 8*len(t.r.S), api.ErrField)
}

// takeBody is the tag of a Kind.
func takeBody(t *taker, kind int) Tag {
	x := Tag{Kind: kind}
	switch kind {
	case api.Show:
	case api.Back:
		x.Color = takeColor(t)
	case api.Place:
		x.Place = takePlace(t)
	case api.Remove:
		x.Depth = t.number(2)
		t.demand(rightDepth(x.Depth), api.ErrField)
	case api.Shape:
		x.Shape = take(t, shape.Take)
	case api.Morph:
		x.Morph = take(t, morph.Take)
	case api.Bitmap:
		x.Bitmap = take(t, takeBitmap)
	case api.Sprite:
		x.Sprite = takeSprite(t)
	default:
		t.demand(false, api.ErrField)
	}
	return x
}

func takeColor(t *taker) api.RGBA {
	c := api.RGBA{A: fullA}
	c.R = t.number(1)
	c.G = t.number(1)
	c.B = t.number(1)
	return c
}

// takePlace takes what Flags tell, even where they are not right: that is told behind all errors of what stands there.
func takePlace(t *taker) Place {
	var p Place
	p.Flags = t.number(1)
	p.Depth = t.number(2)
	if p.Flags&tellsID != 0 {
		p.ID = t.number(2)
	}
	if p.Flags&tellsMatrix != 0 {
		p.Matrix = take(t, field.TakeMatrix)
	}
	if p.Flags&tellsCx != 0 {
		p.Cx = take(t, field.TakeCx)
	}
	if p.Flags&tellsRatio != 0 {
		p.Ratio = t.number(2)
	}
	if p.Flags&tellsClip != 0 {
		p.Clip = t.number(2)
	}
	t.demand(rightPlace(p), api.ErrField)
	return p
}

func takeSprite(t *taker) Sprite {
	var s Sprite
	s.ID = t.number(2)
	s.Frames = t.number(2)
	for _, r := range take(t, takeList) {
		t.demand(isStep(r.Code), api.ErrField)
		s.Tags = append(s.Tags, t.tag(r))
	}
	return s
}

// takeBitmap is the bitmap of all bytes from r on.
func takeBitmap(r bits.Reader) (pixel.Bitmap, bits.Reader, api.Errno) {
	b, e := pixel.Take(r.S[r.At/8:])
	return b, bits.Reader{S: r.S, At: 8 * len(r.S)}, e
}

// takeList is the tags of a list from r on.
func takeList(r bits.Reader) ([]tag.Raw, bits.Reader, api.Errno) {
	l, rest, e := tag.Split(r.S[r.At/8:])
	return l, bits.Reader{S: r.S, At: 8 * (len(r.S) - len(rest))}, e
}
