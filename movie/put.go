package movie

import (
	"celluloid/api"
	"celluloid/bits"
	"celluloid/deflate"
	"celluloid/field"
	"celluloid/morph"
	"celluloid/pixel"
	"celluloid/shape"
	"celluloid/tag"
)

// The letters that a movie begins with, packed or not.
const (
	plainLetters  = "FWS"
	packedLetters = "CWS"
)

// headBytes is how many bytes stand ahead of the inner ones, or of these packed: the letters, Version, and in lengthBytes how many there are in all, if nothing is packed.
const (
	headBytes   = 8
	lengthBytes = 4
)

// PutTag: a tag's Code and body.
func PutTag(t Tag) (tag.Raw, api.Errno) {
	if !RightTag(t) {
		return tag.Raw{}, api.ErrArg
	}
	return raw(t), api.OK
}

// Encode: a movie's bytes.
func Encode(m Movie) (string, api.Errno) {
	inner, right := innerBytes(m)
	if !right {
		return "", api.ErrArg
	}
	letters, behind := plainLetters, inner
	if m.Packed {
		letters = packedLetters
		behind, _ = deflate.Close(inner)
	}
	// What is right fits always, here and below, so there is no error to ask for.
	w, _ := bits.PutLittle(bits.PutBytes(bits.Writer{}, letters), m.Version, 1)
	w, _ = bits.PutLittle(w, headBytes+len(inner), lengthBytes)
	return w.S + behind, api.OK
}

// innerBytes of a movie, if it is right.
func innerBytes(m Movie) (string, bool) {
	if !rightParts(m) {
		return "", false
	}
	w, _ := field.PutRect(bits.Writer{}, m.Size)
	w, _ = bits.PutLittle(w, m.Rate, 2)
	w, _ = bits.PutLittle(w, m.Frames, 2)
	room := api.MaxOut - len(w.S)
	var l []tag.Raw
	for _, t := range m.Tags {
		r := raw(t)
		room -= len(r.Body)
		// Bodies alone may be too many: then the tags behind, which may be far more, are not written.
		if room < 0 {
			return "", false
		}
		l = append(l, r)
	}
	list, _ := tag.Join(l)
	inner := w.S + list
	if len(inner) > api.MaxOut {
		return "", false
	}
	return inner, true
}

// rightParts: is all of a movie right, but perhaps how many bytes it has?
func rightParts(m Movie) bool {
	if !within(m.Version, 0, maxVersion) || !field.RightRect(m.Size) || !rightNumber(m.Rate) || !rightNumber(m.Frames) || len(m.Tags) > api.MaxTags {
		return false
	}
	for _, t := range m.Tags {
		if !RightTag(t) {
			return false
		}
	}
	return true
}

// raw is a right tag's Code and body.
func raw(t Tag) tag.Raw {
	var w bits.Writer
	switch t.Kind {
	case api.Back:
		w = putColor(t.Color)
	case api.Place:
		w = putPlace(t.Place)
	case api.Remove:
		w, _ = bits.PutLittle(w, t.Depth, 2)
	case api.Shape:
		w, _ = shape.Put(w, t.Shape)
	case api.Morph:
		w, _ = morph.Put(w, t.Morph)
	case api.Bitmap:
		w.S, _ = pixel.Put(t.Bitmap)
	case api.Sprite:
		w = putSprite(t.Sprite)
	}
	return tag.Raw{Code: t.Kind, Body: w.S}
}

// putColor lays a colour without its A.
func putColor(c api.RGBA) bits.Writer {
	w, _ := bits.PutLittle(bits.Writer{}, c.R, 1)
	w, _ = bits.PutLittle(w, c.G, 1)
	w, _ = bits.PutLittle(w, c.B, 1)
	return w
}

func putPlace(p Place) bits.Writer {
	w, _ := bits.PutLittle(bits.Writer{}, p.Flags, 1)
	w, _ = bits.PutLittle(w, p.Depth, 2)
	if p.Flags&tellsID != 0 {
		w, _ = bits.PutLittle(w, p.ID, 2)
	}
	if p.Flags&tellsMatrix != 0 {
		w, _ = field.PutMatrix(w, p.Matrix)
	}
	if p.Flags&tellsCx != 0 {
		w, _ = field.PutCx(w, p.Cx)
	}
	if p.Flags&tellsRatio != 0 {
		w, _ = bits.PutLittle(w, p.Ratio, 2)
	}
	if p.Flags&tellsClip != 0 {
		w, _ = bits.PutLittle(w, p.Clip, 2)
	}
	return w
}

func putSprite(s Sprite) bits.Writer {
	w, _ := bits.PutLittle(bits.Writer{}, s.ID, 2)
	w, _ = bits.PutLittle(w, s.Frames, 2)
	var l []tag.Raw
	for _, t := range s.Tags {
		l = append(l, raw(t))
	}
	list, _ := tag.Join(l)
	return bits.PutBytes(w, list)
}
