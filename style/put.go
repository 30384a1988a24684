package style

import (
	"celluloid/api"
	"celluloid/bits"
	"celluloid/field"
)

// How many bits of the byte of Spread and Stops tell how many stops there are, and from which one on it tells Spread. Those between are 0.
const (
	stopBits   = 4
	spreadFrom = 6
)

// Put: both lists behind w.
func Put(w bits.Writer, fills []api.Fill, strokes []api.Stroke) (bits.Writer, api.Errno) {
	if !Right(fills, strokes) {
		return bits.Writer{}, api.ErrArg
	}
	// The lists are written for themselves first: so w's bytes, which may be many, are copied once.
	body := putList(bits.Writer{}, fills, putFill)
	body = putList(body, strokes, putStroke)
	return bits.PutBytes(w, body.S), api.OK
}

// putList lays how many there are, and these. What is right fits always, here and below, so there is no error to ask for.
func putList[T any](w bits.Writer, l []T, put func(bits.Writer, T) bits.Writer) bits.Writer {
	w, _ = bits.PutLittle(w, len(l), 1)
	for _, v := range l {
		w = put(w, v)
	}
	return w
}

func putFill(w bits.Writer, f api.Fill) bits.Writer {
	w, _ = bits.PutLittle(w, f.Kind, 1)
	switch f.Kind {
	case api.Solid:
		w, _ = field.PutRGBA(w, f.Color)
	case api.Linear, api.Radial:
		w, _ = field.PutMatrix(w, f.Matrix)
		w, _ = bits.PutLittle(w, f.Spread<<spreadFrom|len(f.Stops), 1)
		for _, s := range f.Stops {
			w, _ = bits.PutLittle(w, s.Ratio, 1)
			w, _ = field.PutRGBA(w, s.Color)
		}
	case api.Tiled, api.Cut:
		w, _ = bits.PutLittle(w, f.ID, 2)
		w, _ = field.PutMatrix(w, f.Matrix)
	}
	return w
}

func putStroke(w bits.Writer, s api.Stroke) bits.Writer {
	w, _ = bits.PutLittle(w, s.Width, 2)
	w, _ = field.PutRGBA(w, s.Color)
	return w
}
