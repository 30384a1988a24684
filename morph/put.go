package morph

import (
	"celluloid/api"
	"celluloid/bits"
	"celluloid/field"
	"celluloid/shape"
)

// How many bytes tell how many there are ahead of Target.
const lengthBytes = 4

// How many bits of the byte of Spread and Stops tell how many stops there are, and from which one on it tells Spread. Those between are 0.
const (
	stopBits   = 4
	spreadFrom = 6
)

// Put: a morph behind w.
func Put(w bits.Writer, m Morph) (bits.Writer, api.Errno) {
	if !Right(m) {
		return bits.Writer{}, api.ErrArg
	}
	// What stands ahead of Target is written for itself first, as it is told how many bytes it has; the whole likewise, so that w's bytes, which may be many, are copied once. What is right fits always, here and below, so there is no error to ask for.
	ahead := putStyles(m)
	ahead, _ = shape.PutRecords(ahead, len(m.Fills), len(m.Strokes), m.Records, shape.Plain)
	body, _ := bits.PutLittle(bits.Writer{}, m.ID, 2)
	body, _ = field.PutRect(body, m.From)
	body, _ = field.PutRect(body, m.To)
	body, _ = bits.PutLittle(body, len(ahead.S), lengthBytes)
	body = bits.PutBytes(body, ahead.S)
	body, _ = shape.PutRecords(body, 0, 0, m.Target, shape.Bare)
	return bits.PutBytes(w, body.S), api.OK
}

// putStyles lays both sides' lists, pair by pair.
func putStyles(m Morph) bits.Writer {
	w, _ := bits.PutLittle(bits.Writer{}, len(m.Fills), 1)
	for i, f := range m.Fills {
		w = putFills(w, f, m.ToFills[i])
	}
	w, _ = bits.PutLittle(w, len(m.Strokes), 1)
	for i, s := range m.Strokes {
		w = putStrokes(w, s, m.ToStrokes[i])
	}
	return w
}

func putFills(w bits.Writer, a api.Fill, b api.Fill) bits.Writer {
	w, _ = bits.PutLittle(w, a.Kind, 1)
	switch a.Kind {
	case api.Solid:
		w, _ = field.PutRGBA(w, a.Color)
		w, _ = field.PutRGBA(w, b.Color)
	case api.Linear, api.Radial:
		w = putMatrices(w, a, b)
		w, _ = bits.PutLittle(w, a.Spread<<spreadFrom|len(a.Stops), 1)
		for i, s := range a.Stops {
			w = putStop(w, s)
			w = putStop(w, b.Stops[i])
		}
	case api.Tiled, api.Cut:
		w, _ = bits.PutLittle(w, a.ID, 2)
		w = putMatrices(w, a, b)
	}
	return w
}

func putMatrices(w bits.Writer, a api.Fill, b api.Fill) bits.Writer {
	w, _ = field.PutMatrix(w, a.Matrix)
	w, _ = field.PutMatrix(w, b.Matrix)
	return w
}

func putStop(w bits.Writer, s api.Stop) bits.Writer {
	w, _ = bits.PutLittle(w, s.Ratio, 1)
	w, _ = field.PutRGBA(w, s.Color)
	return w
}

func putStrokes(w bits.Writer, a api.Stroke, b api.Stroke) bits.Writer {
	w, _ = bits.PutLittle(w, a.Width, 2)
	w, _ = bits.PutLittle(w, b.Width, 2)
	w, _ = field.PutRGBA(w, a.Color)
	w, _ = field.PutRGBA(w, b.Color)
	return w
}
