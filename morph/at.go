package morph

import (
	"celluloid/api"
	"celluloid/fix"
	"celluloid/shape"
)

// Between: the number at a ratio t on the way from a to b; 0, if one of them is too far.
func Between(a int, b int, t int) int {
	if !within(a, -maxNumber, maxNumber) || !within(b, -maxNumber, maxNumber) {
		return 0
	}
	// Numbers so near have a floor always, so there is nothing to ask for.
	way, _ := fix.MulDiv(b-a, min(max(t, 0), maxRatio), maxRatio)
	return a + way
}

// At: the shape at a ratio.
func At(m Morph, t int) (shape.Shape, api.Errno) {
	if !Right(m) || !within(t, 0, maxRatio) {
		return shape.Shape{}, api.ErrArg
	}
	at := ratio(t)
	records, ok := at.records(m.Records, m.Target)
	if !ok {
		return shape.Shape{}, api.ErrField
	}
	return shape.Shape{
		ID:      m.ID,
		Bounds:  at.rect(m.From, m.To),
		Fills:   pairs(m.Fills, m.ToFills, at.fill),
		Strokes: pairs(m.Strokes, m.ToStrokes, at.stroke),
		Records: records,
	}, api.OK
}

// ratio tells what stands there between things of one form.
type ratio int

// pairs are what becomes of each pair of two lists of one length.
func pairs[T any](from []T, to []T, become func(T, T) T) []T {
	var l []T
	for i, v := range from {
		l = append(l, become(v, to[i]))
	}
	return l
}

func (t ratio) number(a int, b int) int {
	return Between(a, b, int(t))
}

func (t ratio) rect(a api.Rect, b api.Rect) api.Rect {
	return api.Rect{
		Left:   t.number(a.Left, b.Left),
		Right:  t.number(a.Right, b.Right),
		Top:    t.number(a.Top, b.Top),
		Bottom: t.number(a.Bottom, b.Bottom),
	}
}

func (t ratio) color(a api.RGBA, b api.RGBA) api.RGBA {
	return api.RGBA{R: t.number(a.R, b.R), G: t.number(a.G, b.G), B: t.number(a.B, b.B), A: t.number(a.A, b.A)}
}

func (t ratio) matrix(a api.Matrix, b api.Matrix) api.Matrix {
	return api.Matrix{
		A: t.number(a.A, b.A), B: t.number(a.B, b.B), C: t.number(a.C, b.C), D: t.number(a.D, b.D),
		X: t.number(a.X, b.X), Y: t.number(a.Y, b.Y),
	}
}

func (t ratio) stop(a api.Stop, b api.Stop) api.Stop {
	return api.Stop{Ratio: t.number(a.Ratio, b.Ratio), Color: t.color(a.Color, b.Color)}
}

// fill: what its Kind has not is 0 on both sides, and so between them.
func (t ratio) fill(a api.Fill, b api.Fill) api.Fill {
	return api.Fill{
		Kind:   a.Kind,
		Color:  t.color(a.Color, b.Color),
		Matrix: t.matrix(a.Matrix, b.Matrix),
		Spread: a.Spread,
		Stops:  pairs(a.Stops, b.Stops, t.stop),
		ID:     a.ID,
	}
}

func (t ratio) stroke(a api.Stroke, b api.Stroke) api.Stroke {
	return api.Stroke{Width: t.number(a.Width, b.Width), Color: t.color(a.Color, b.Color)}
}

// records: Sets as they stand, and what becomes of each other one with the target's next; false, if these don't go together.
func (t ratio) records(l []api.Record, target []api.Record) ([]api.Record, bool) {
	var done []api.Record
	next := 0
	for _, v := range l {
		if v.Kind != api.Set {
			if next == len(target) {
				return nil, false
			}
			a, b := alike(v, target[next])
			if a.Kind != b.Kind {
				return nil, false
			}
			v = t.record(a, b)
			next++
		}
		done = append(done, v)
	}
	if next < len(target) {
		return nil, false
	}
	return done, true
}

// record: what stands between two of one Kind.
func (t ratio) record(a api.Record, b api.Record) api.Record {
	return api.Record{Kind: a.Kind, X: t.number(a.X, b.X), Y: t.number(a.Y, b.Y), CX: t.number(a.CX, b.CX), CY: t.number(a.CY, b.CY)}
}

// alike are both, but a Line beside a Curve as a Curve.
func alike(a api.Record, b api.Record) (api.Record, api.Record) {
	switch {
	case a.Kind == api.Line && b.Kind == api.Curve:
		return asCurve(a), b
	case a.Kind == api.Curve && b.Kind == api.Line:
		return a, asCurve(b)
	}
	return a, b
}

// asCurve is a Line as a Curve by way of its midst: a Curve's end is told from its control on.
func asCurve(v api.Record) api.Record {
	cx, _ := fix.Floor(v.X, 2)
	cy, _ := fix.Floor(v.Y, 2)
	return api.Record{Kind: api.Curve, CX: cx, CY: cy, X: v.X - cx, Y: v.Y - cy}
}
