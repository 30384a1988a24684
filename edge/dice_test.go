package edge_test

import (
	"math"
	"slices"

	"celluloid/api"
	"celluloid/edge"
	"celluloid/shape"
)

// Numbers that nothing holds.
const (
	most  = math.MaxInt64
	least = math.MinInt64
)

// dice are numbers that are always the same ones.
type dice uint64

func (d *dice) roll(count int) int {
	x := uint64(*d)
	x ^= x << 13
	x ^= x >> 7
	x ^= x << 17
	*d = dice(x)
	return int(x>>11) % count
}

// about is a number from low to high, often one of these or a small one.
func (d *dice) about(low int, high int) int {
	switch d.roll(6) {
	case 0:
		return low
	case 1:
		return high
	case 2, 3:
		return min(high, max(low, d.roll(201)-100))
	}
	return low + d.roll(high-low+1)
}

func (d *dice) color() api.RGBA {
	return api.RGBA{R: d.roll(256), G: d.roll(256), B: d.roll(256), A: d.roll(256)}
}

func (d *dice) fill() api.Fill {
	switch d.roll(3) {
	case 0:
		stops := []api.Stop{{Ratio: d.roll(100), Color: d.color()}, {Ratio: 100 + d.roll(156), Color: d.color()}}
		return api.Fill{Kind: []int{16, 18}[d.roll(2)], Matrix: api.Matrix{A: d.about(-1<<22, 1<<22), X: d.roll(9)}, Spread: d.roll(3), Stops: stops}
	case 1:
		return api.Fill{Kind: 64 + d.roll(2), Matrix: api.Matrix{D: d.about(-1<<22, 1<<22)}, ID: d.roll(65536)}
	}
	return api.Fill{Color: d.color()}
}

// styles are right lists, often short ones or none.
func (d *dice) styles() (fills []api.Fill, strokes []api.Stroke) {
	for range min(15, d.roll(4)*d.roll(7)) {
		fills = append(fills, d.fill())
	}
	for range min(15, d.roll(4)*d.roll(7)) {
		strokes = append(strokes, api.Stroke{Width: d.roll(65536), Color: d.color()})
	}
	return fills, strokes
}

// set is a right one beside so many styles.
func (d *dice) set(fills int, strokes int) api.Record {
	v := api.Record{Kind: 2, Left: d.roll(fills+2) - 1, Right: d.roll(fills+2) - 1, Line: d.roll(strokes+2) - 1}
	if v.Left+v.Right+v.Line == -3 {
		v.Line = 0
	}
	return v
}

// way is how far a Line may go.
func (d *dice) way() int { return d.about(-65536, 65535) }

// record is a right one beside so many styles.
func (d *dice) record(fills int, strokes int) api.Record {
	switch d.roll(12) {
	case 0:
		return api.Record{Kind: 1, X: d.about(-1<<20, 1<<20), Y: d.about(-1<<20, 1<<20)}
	case 1, 2, 3, 4:
		return d.set(fills, strokes)
	case 5:
		v := api.Record{Kind: 3}
		v.Fills, v.Strokes = d.styles()
		return v
	case 6, 7, 8:
		return api.Record{Kind: 5, CX: d.way(), CY: d.way(), X: d.way(), Y: d.way()}
	}
	return api.Record{Kind: 4, X: d.way(), Y: d.way()}
}

// shape is a right one with so many records.
func (d *dice) shape(count int) shape.Shape {
	s := shape.Shape{ID: d.roll(65536), Bounds: api.Rect{Left: -d.roll(9), Right: d.roll(9), Top: -d.roll(9), Bottom: d.roll(9)}}
	s.Fills, s.Strokes = d.styles()
	fills, strokes := len(s.Fills), len(s.Strokes)
	for range count {
		v := d.record(fills, strokes)
		if v.Kind == 3 {
			fills, strokes = len(v.Fills), len(v.Strokes)
		}
		s.Records = append(s.Records, v)
	}
	return s
}

// any is a number of any size.
func (d *dice) any() int {
	switch d.roll(4) {
	case 0:
		return []int{most, least, most - 1, least + 1, 1 << 20, -1 << 20, 65535, -65536}[d.roll(8)]
	case 1:
		return (d.roll(2)*2 - 1) << d.roll(63)
	}
	return d.roll(20) - 4
}

// spoil makes one number of a shape any other, or takes what was in a list.
func (d *dice) spoil(s *shape.Shape) {
	switch d.roll(5) {
	case 0:
		*[]*int{&s.ID, &s.Bounds.Left, &s.Bounds.Right, &s.Bounds.Top, &s.Bounds.Bottom}[d.roll(5)] = d.any()
	case 1:
		s.Fills, s.Strokes = d.styles()
	case 2:
		s.Fills = append(s.Fills, d.fills(d.roll(15))...)
	default:
		if len(s.Records) == 0 {
			return
		}
		v := &s.Records[d.roll(len(s.Records))]
		*[]*int{&v.Kind, &v.X, &v.Y, &v.CX, &v.CY, &v.Left, &v.Right, &v.Line}[d.roll(8)] = d.any()
	}
}

func (d *dice) fills(count int) []api.Fill {
	var l []api.Fill
	for range count {
		l = append(l, d.fill())
	}
	return l
}

func (d *dice) point() api.Point { return api.Point{X: d.any(), Y: d.any()} }

// edge is any one at all.
func (d *dice) edge() edge.Edge {
	return edge.Edge{From: d.point(), Ctrl: d.point(), To: d.point(), Curved: d.roll(2) > 0, Left: d.any(), Right: d.any(), Line: d.any()}
}

// copied shares nothing with s.
func copied(s shape.Shape) shape.Shape {
	s.Fills, s.Strokes, s.Records = copiedFills(s.Fills), slices.Clone(s.Strokes), slices.Clone(s.Records)
	for i := range s.Records {
		s.Records[i].Fills = copiedFills(s.Records[i].Fills)
		s.Records[i].Strokes = slices.Clone(s.Records[i].Strokes)
	}
	return s
}

func copiedFills(l []api.Fill) []api.Fill {
	l = slices.Clone(l)
	for i := range l {
		l[i].Stops = slices.Clone(l[i].Stops)
	}
	return l
}
