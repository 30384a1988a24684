package morph

import (
	"celluloid/api"
	"celluloid/bits"
	"celluloid/field"
	"celluloid/shape"
)

// Take: the morph that stands at r, and the reader behind it.
func Take(r bits.Reader) (Morph, bits.Reader, api.Errno) {
	t := &taker{r: r}
	m := Morph{ID: t.number(2)}
	m.From, m.To = takeBoth(t, field.TakeRect)
	length := t.number(lengthBytes)
	from := t.r.At
	m.Fills, m.ToFills = takeLists(t, takeFills)
	m.Strokes, m.ToStrokes = takeLists(t, takeStrokes)
	m.Records = t.records(len(m.Fills), len(m.Strokes), shape.Plain)
	to := t.r.At
	m.Target = t.records(0, 0, shape.Bare)
	t.demand(to-from == 8*length, api.ErrField)
	if t.e != api.OK {
		return Morph{}, bits.Reader{}, t.e
	}
	return m, t.r, api.OK
}

// taker takes one thing after another and keeps the first error; behind it nothing is read any more, and all is 0.
type taker struct {
	r bits.Reader
	e api.Errno
}

// take is the next thing, read in a way of a layer below.
func take[T any](t *taker, read func(bits.Reader) (T, bits.Reader, api.Errno)) T {
	var v T
	if t.e == api.OK {
		v, t.r, t.e = read(t.r)
	}
	return v
}

// takeBoth is the next two things: one side's and the other's.
func takeBoth[T any](t *taker, read func(bits.Reader) (T, bits.Reader, api.Errno)) (T, T) {
	a := take(t, read)
	b := take(t, read)
	return a, b
}

// number of the next n bytes.
func (t *taker) number(n int) int {
	return take(t, func(r bits.Reader) (int, bits.Reader, api.Errno) { return bits.Little(r, n) })
}

// records of the kind that stand beside so many fills and lines.
func (t *taker) records(fills int, strokes int, kind int) []api.Record {
	return take(t, func(r bits.Reader) ([]api.Record, bits.Reader, api.Errno) {
		return shape.TakeRecords(r, fills, strokes, kind)
	})
}

// demand tells an error of what was read last, unless there was one ahead of it.
func (t *taker) demand(holds bool, e api.Errno) {
	if t.e == api.OK && !holds {
		t.e = e
	}
}

// takeLists is how many pairs there are, and these, as one side's list and the other's.
func takeLists[T any](t *taker, pair func(*taker) (T, T)) ([]T, []T) {
	n := t.number(1)
	t.demand(n <= api.MaxStyles, api.ErrLimit)
	var from, to []T
	for len(from) < n && t.e == api.OK {
		a, b := pair(t)
		from, to = append(from, a), append(to, b)
	}
	return from, to
}

func takeFills(t *taker) (api.Fill, api.Fill) {
	kind := t.number(1)
	a, b := api.Fill{Kind: kind}, api.Fill{Kind: kind}
	switch kind {
	case api.Solid:
		a.Color, b.Color = takeBoth(t, field.TakeRGBA)
	case api.Linear, api.Radial:
		a.Matrix, b.Matrix = takeBoth(t, field.TakeMatrix)
		spread, n := takeForm(t)
		a.Spread, b.Spread = spread, spread
		a.Stops, b.Stops = takeStops(t, n)
	case api.Tiled, api.Cut:
		id := t.number(2)
		a.ID, b.ID = id, id
		a.Matrix, b.Matrix = takeBoth(t, field.TakeMatrix)
	default:
		t.demand(false, api.ErrField)
	}
	return a, b
}

// takeForm is the byte of Spread, and of how many stops there are.
func takeForm(t *taker) (int, int) {
	told := t.number(1)
	spread, n := told>>spreadFrom, told&(1<<stopBits-1)
	t.demand(spread <= api.Repeat && told == spread<<spreadFrom|n && n >= 1 && n <= api.MaxStops, api.ErrField)
	return spread, n
}

// takeStops is n stops of each side. That one side's Ratio falls is told behind the other's, ahead of the colour that follows.
func takeStops(t *taker, n int) ([]api.Stop, []api.Stop) {
	var from, to []api.Stop
	var last, lastTo int
	for len(from) < n && t.e == api.OK {
		a := api.Stop{Ratio: t.number(1), Color: take(t, field.TakeRGBA)}
		b := api.Stop{Ratio: t.number(1)}
		t.demand(a.Ratio >= last && b.Ratio >= lastTo, api.ErrField)
		b.Color = take(t, field.TakeRGBA)
		last, lastTo = a.Ratio, b.Ratio
		from, to = append(from, a), append(to, b)
	}
	return from, to
}

func takeStrokes(t *taker) (api.Stroke, api.Stroke) {
	var a, b api.Stroke
	a.Width = t.number(2)
	b.Width = t.number(2)
	a.Color, b.Color = takeBoth(t, field.TakeRGBA)
	return a, b
}
