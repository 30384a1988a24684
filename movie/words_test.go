package movie_test

import (
	"math"
	"reflect"

	"celluloid/api"
	"celluloid/bits"
	"celluloid/deflate"
	"celluloid/field"
	"celluloid/inflate"
	"celluloid/morph"
	"celluloid/movie"
	"celluloid/pixel"
	"celluloid/shape"
	"celluloid/tag"
)

// The chapter's words once more, with the parts of layers 5 to 12 as these write and take them, and with nothing of this layer: what the tests hold the layer against.

// Numbers that nothing holds.
const (
	most  = math.MaxInt64
	least = math.MinInt64
)

// room is how many inner bytes there may be.
const room = 1 << 18

// kinds are those that a tag may have.
var kinds = []int{1, 9, 26, 28, 32, 36, 39, 46}

// part is the name of what a tag of the Kind has; and whether there is such a Kind.
func part(kind int) (string, bool) {
	switch kind {
	case 1:
		return "", true
	case 9:
		return "Color", true
	case 26:
		return "Place", true
	case 28:
		return "Depth", true
	case 32:
		return "Shape", true
	case 36:
		return "Bitmap", true
	case 39:
		return "Sprite", true
	case 46:
		return "Morph", true
	}
	return "", false
}

// step: has a step this Kind?
func step(kind int) bool {
	return kind == 1 || kind == 26 || kind == 28
}

// none: is it 0, or a list without anything, through and through?
func none(v reflect.Value) bool {
	switch v.Kind() {
	case reflect.Slice:
		return v.Len() == 0
	case reflect.Struct:
		for i := range v.NumField() {
			if !none(v.Field(i)) {
				return false
			}
		}
		return true
	}
	return v.IsZero()
}

// same: are they equal, where a list that is nil is as one that is empty?
func same(a reflect.Value, b reflect.Value) bool {
	switch a.Kind() {
	case reflect.Slice:
		if a.Len() != b.Len() {
			return false
		}
		for i := range a.Len() {
			if !same(a.Index(i), b.Index(i)) {
				return false
			}
		}
		return true
	case reflect.Struct:
		for i := range a.NumField() {
			if !same(a.Field(i), b.Field(i)) {
				return false
			}
		}
		return true
	}
	return a.Equal(b)
}

func sameTag(a movie.Tag, b movie.Tag) bool {
	return same(reflect.ValueOf(a), reflect.ValueOf(b))
}

func sameMovie(a movie.Movie, b movie.Movie) bool {
	return same(reflect.ValueOf(a), reflect.ValueOf(b))
}

func from(v int, lowest int, highest int) bool {
	return lowest <= v && v <= highest
}

// wordsRightTag: is it right?
func wordsRightTag(t movie.Tag) bool {
	name, is := part(t.Kind)
	v := reflect.ValueOf(t)
	for i := range v.NumField() {
		if n := v.Type().Field(i).Name; n != "Kind" && n != name && !none(v.Field(i)) {
			return false
		}
	}
	switch t.Kind {
	case 9:
		return field.RightRGBA(t.Color) && t.Color.A == 255
	case 26:
		return wordsRightPlace(t.Place)
	case 28:
		return from(t.Depth, 1, 255)
	case 32:
		return shape.Right(t.Shape)
	case 36:
		return pixel.Right(t.Bitmap)
	case 39:
		return wordsRightSprite(t.Sprite)
	case 46:
		return morph.Right(t.Morph)
	}
	return is
}

// wordsRightPlace: is it right?
func wordsRightPlace(p movie.Place) bool {
	is := false
	for sum := range 128 {
		// A sum of 1, 2, 4, 8, 16 and 64 is any without 32; and at least one of 1 and 2 is in it, if it isn't divided by 4.
		if sum/32%2 == 0 && sum%4 > 0 && p.Flags == sum {
			is = true
		}
	}
	if !is || !from(p.Depth, 1, 255) {
		return false
	}
	right := func(bit int, v any, right bool) bool {
		if p.Flags/bit%2 == 0 {
			return none(reflect.ValueOf(v))
		}
		return right
	}
	return right(2, p.ID, from(p.ID, 0, 65535)) && right(4, p.Matrix, field.RightMatrix(p.Matrix)) && right(8, p.Cx, field.RightCx(p.Cx)) &&
		right(16, p.Ratio, from(p.Ratio, 0, 65535)) && right(64, p.Clip, from(p.Clip, 1, 255))
}

// wordsRightSprite: is it right?
func wordsRightSprite(s movie.Sprite) bool {
	if !from(s.ID, 0, 65535) || !from(s.Frames, 0, 65535) || len(s.Tags) > 256 {
		return false
	}
	for _, t := range s.Tags {
		if !step(t.Kind) || !wordsRightTag(t) {
			return false
		}
	}
	return true
}

// wordsRight: is it right?
func wordsRight(m movie.Movie) bool {
	return wordsRightParts(m) && len(wordsInner(m)) <= room
}

// wordsRightParts: is it right, but perhaps for how many bytes it would have?
func wordsRightParts(m movie.Movie) bool {
	if !from(m.Version, 0, 255) || !field.RightRect(m.Size) || !from(m.Rate, 0, 65535) || !from(m.Frames, 0, 65535) || len(m.Tags) > 256 {
		return false
	}
	for _, t := range m.Tags {
		if !wordsRightTag(t) {
			return false
		}
	}
	return true
}

// little is a number in n bytes, the lowest first.
func little(v int, n int) string {
	var s []byte
	for range n {
		s = append(s, byte(v%256))
		v /= 256
	}
	return string(s)
}

// ok is what a layer below has made; it must have been right.
func ok[T any](v T, e api.Errno) T {
	if e != api.OK {
		panic("what is not right has no bytes")
	}
	return v
}

// written is what a layer below lays.
func written[T any](put func(bits.Writer, T) (bits.Writer, api.Errno), v T) string {
	return ok(put(bits.Writer{}, v)).S
}

// wordsBody is a right tag's body.
func wordsBody(t movie.Tag) string {
	switch t.Kind {
	case 9:
		return string([]byte{byte(t.Color.R), byte(t.Color.G), byte(t.Color.B)})
	case 26:
		return wordsPlace(t.Place)
	case 28:
		return little(t.Depth, 2)
	case 32:
		return written(shape.Put, t.Shape)
	case 36:
		return ok(pixel.Put(t.Bitmap))
	case 39:
		return little(t.Sprite.ID, 2) + little(t.Sprite.Frames, 2) + wordsList(t.Sprite.Tags)
	case 46:
		return written(morph.Put, t.Morph)
	}
	return ""
}

func wordsPlace(p movie.Place) string {
	s := little(p.Flags, 1) + little(p.Depth, 2)
	for _, one := range []struct {
		bit int
		put func() string
	}{
		{2, func() string { return little(p.ID, 2) }},
		{4, func() string { return written(field.PutMatrix, p.Matrix) }},
		{8, func() string { return written(field.PutCx, p.Cx) }},
		{16, func() string { return little(p.Ratio, 2) }},
		{64, func() string { return little(p.Clip, 2) }},
	} {
		if p.Flags/one.bit%2 == 1 {
			s += one.put()
		}
	}
	return s
}

// wordsList are the bytes of a list of right tags.
func wordsList(l []movie.Tag) string {
	var raws []tag.Raw
	for _, t := range l {
		raws = append(raws, tag.Raw{Code: t.Kind, Body: wordsBody(t)})
	}
	return ok(tag.Join(raws))
}

// wordsInner are the inner bytes of a movie whose parts are right.
func wordsInner(m movie.Movie) string {
	return written(field.PutRect, m.Size) + little(m.Rate, 2) + little(m.Frames, 2) + wordsList(m.Tags)
}

// closed are bytes as layer 6 wraps them.
func closed(s string) string {
	return ok(deflate.Close(s))
}

// file is a movie's bytes of inner ones.
func file(packed bool, version int, inner string) string {
	head := little(version, 1) + little(8+len(inner), 4)
	if packed {
		return "CWS" + head + closed(inner)
	}
	return "FWS" + head + inner
}

// wordsEncode are a right movie's bytes.
func wordsEncode(m movie.Movie) string {
	return file(m.Packed, m.Version, wordsInner(m))
}

// source is bytes that are read part after part; it panics with the error that the words tell at that place.
type source struct {
	s string
}

func demand(holds bool, e api.Errno) {
	if !holds {
		panic(e)
	}
}

func (s *source) number(n int) int {
	demand(len(s.s) >= n, api.ErrShort)
	v := 0
	for i := n - 1; i >= 0; i-- {
		v = 256*v + int(s.s[i])
	}
	s.s = s.s[n:]
	return v
}

// read is what a layer below takes from the beginning.
func read[T any](s *source, take func(bits.Reader) (T, bits.Reader, api.Errno)) T {
	v, r, e := take(bits.Reader{S: s.s})
	demand(e == api.OK, e)
	s.s = s.s[r.At/8:]
	return v
}

func (s *source) list() []tag.Raw {
	l, rest, e := tag.Split(s.s)
	demand(e == api.OK, e)
	s.s = rest
	return l
}

func (s *source) place() (p movie.Place) {
	p.Flags = s.number(1)
	p.Depth = s.number(2)
	if p.Flags/2%2 == 1 {
		p.ID = s.number(2)
	}
	if p.Flags/4%2 == 1 {
		p.Matrix = read(s, field.TakeMatrix)
	}
	if p.Flags/8%2 == 1 {
		p.Cx = read(s, field.TakeCx)
	}
	if p.Flags/16%2 == 1 {
		p.Ratio = s.number(2)
	}
	if p.Flags/64%2 == 1 {
		p.Clip = s.number(2)
	}
	demand(p.Flags < 128 && p.Flags/32%2 == 0 && p.Flags%4 > 0, api.ErrField)
	demand(p.Depth > 0 && p.Depth < 256, api.ErrField)
	demand(p.Flags < 64 || p.Clip > 0 && p.Clip < 256, api.ErrField)
	return p
}

func (s *source) tag(kind int) (t movie.Tag) {
	t.Kind = kind
	switch kind {
	case 1:
	case 9:
		t.Color = api.RGBA{R: s.number(1), G: s.number(1), B: s.number(1), A: 255}
	case 26:
		t.Place = s.place()
	case 28:
		t.Depth = s.number(2)
		demand(t.Depth > 0 && t.Depth < 256, api.ErrField)
	case 32:
		t.Shape = read(s, shape.Take)
	case 36:
		b, e := pixel.Take(s.s)
		demand(e == api.OK, e)
		t.Bitmap, s.s = b, ""
	case 39:
		t.Sprite.ID = s.number(2)
		t.Sprite.Frames = s.number(2)
		for _, r := range s.list() {
			demand(step(r.Code), api.ErrField)
			t.Sprite.Tags = append(t.Sprite.Tags, tagOf(r))
		}
	case 46:
		t.Morph = read(s, morph.Take)
	default:
		panic(api.ErrField)
	}
	demand(s.s == "", api.ErrField)
	return t
}

// tagOf is the tag of a Code and a body; it panics with an error.
func tagOf(r tag.Raw) movie.Tag {
	s := &source{r.Body}
	return s.tag(r.Code)
}

// movieOf is the movie of bytes; it panics with an error.
func movieOf(s string) (m movie.Movie) {
	demand(len(s) >= 8, api.ErrShort)
	inner := s[8:]
	switch s[:3] {
	case "CWS":
		m.Packed = true
		var e api.Errno
		inner, e = inflate.Open(s[8:], room)
		demand(e == api.OK, e)
	case "FWS":
		demand(len(inner) <= room, api.ErrLimit)
	default:
		panic(api.ErrField)
	}
	head := &source{s[3:8]}
	m.Version = head.number(1)
	demand(head.number(4) == 8+len(inner), api.ErrField)
	body := &source{inner}
	m.Size = read(body, field.TakeRect)
	m.Rate = body.number(2)
	m.Frames = body.number(2)
	l := body.list()
	demand(body.s == "", api.ErrField)
	for _, r := range l {
		m.Tags = append(m.Tags, tagOf(r))
	}
	return m
}

// caught is what is made of v, or the error that was told on the way.
func caught[T any, V any](v V, of func(V) T) (answer T, e api.Errno) {
	defer func() {
		switch told := recover().(type) {
		case nil:
		case api.Errno:
			var nothing T
			answer, e = nothing, told
		default:
			panic(told)
		}
	}()
	return of(v), api.OK
}

// wordsTakeTag is the tag of a Code and a body, or the first error.
func wordsTakeTag(r tag.Raw) (movie.Tag, api.Errno) {
	return caught(r, tagOf)
}

// wordsDecode is the movie of bytes, or the first error.
func wordsDecode(s string) (movie.Movie, api.Errno) {
	return caught(s, movieOf)
}
