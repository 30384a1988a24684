package style

import (
	"celluloid/api"
	"celluloid/bits"
	"celluloid/field"
)

// Take: both lists that stand at r, and the reader behind them.
func Take(r bits.Reader) ([]api.Fill, []api.Stroke, bits.Reader, api.Errno) {
	t := &taker{r: r}
	fills := takeList(t, takeFill)
	strokes := takeList(t, takeStroke)
	if t.e != api.OK {
		return nil, nil, bits.Reader{}, t.e
	}
	return fills, strokes, t.r, api.OK
}

// taker takes one thing after another and keeps the first error; behind it nothing is read any more, and all is 0.
type taker struct {
	r bits.Reader
	e api.Errno
}

// take is the next thing, read in a way of a layer below.
func take[T any](t *taker, read func(bits.Reader) (T, bits.Reader, api.Errno)) T {
	var v T
	if t.e == api.OK {
		v, t.r, t.e = read(t.r)
	}
	return v
}

// number of the next n bytes.
func (t *taker) number(n int) int {
	return take(t, func(r bits.Reader) (int, bits.Reader, api.Errno) { return bits.Little(r, n) })
}

// demand tells an error of what was read last, unless there was one ahead of it.
func (t *taker) demand(holds bool, e api.Errno) {
	if t.e == api.OK && !holds {
		t.e = e
	}
}

// takeList is how many there are, and these.
func takeList[T any](t *taker, one func(*taker) T) []T {
	n := t.number(1)
	t.demand(n <= api.MaxStyles, api.ErrLimit)
	var l []T
	for len(l) < n && t.e == api.OK {
		l = append(l, one(t))
	}
	return l
}

func takeFill(t *taker) api.Fill {
	f := api.Fill{Kind: t.number(1)}
	switch f.Kind {
	case api.Solid:
		f.Color = take(t, field.TakeRGBA)
	case api.Linear, api.Radial:
		f.Matrix = take(t, field.TakeMatrix)
		f.Spread, f.Stops = takeStops(t)
	case api.Tiled, api.Cut:
		f.ID = t.number(2)
		f.Matrix = take(t, field.TakeMatrix)
	default:
		t.demand(false, api.ErrField)
	}
	return f
}

// takeStops is the byte of Spread and Stops, and the stops. A Ratio that falls is told ahead of its colour.
func takeStops(t *taker) (int, []api.Stop) {
	told := t.number(1)
	spread, n := told>>spreadFrom, told&(1<<stopBits-1)
	t.demand(spread <= maxSpread && told == spread<<spreadFrom|n && n >= 1 && n <= api.MaxStops, api.ErrField)
	var l []api.Stop
	last := 0
	for len(l) < n && t.e == api.OK {
		ratio := t.number(1)
		t.demand(ratio >= last, api.ErrField)
		last = ratio
		l = append(l, api.Stop{Ratio: ratio, Color: take(t, field.TakeRGBA)})
	}
	return spread, l
}

func takeStroke(t *taker) api.Stroke {
	width := t.number(2)
	return api.Stroke{Width: width, Color: take(t, field.TakeRGBA)}
}
