package edge_test

import (
	"celluloid/api"
	"celluloid/edge"
	"celluloid/shape"
)

// The chapter's words once more: each edge is told for itself, by looking back from its record at those ahead of it, with no pen that goes on.

// wordsPath is all that the chapter tells of a shape that is right.
func wordsPath(s shape.Shape) edge.Path {
	var p edge.Path
	for _, l := range lists(s) {
		p.Fills = append(p.Fills, l.Fills...)
		p.Strokes = append(p.Strokes, l.Strokes...)
	}
	for i, v := range s.Records {
		if v.Kind == 4 || v.Kind == 5 {
			p.Edges = append(p.Edges, wordsEdge(s, i))
		}
	}
	return p
}

// lists are the shape's own styles, and those of each Fresh.
func lists(s shape.Shape) []api.Record {
	l := []api.Record{{Kind: 3, Fills: s.Fills, Strokes: s.Strokes}}
	for _, v := range s.Records {
		if v.Kind == 3 {
			l = append(l, v)
		}
	}
	return l
}

// wordsEdge is the edge of record i, a Line or a Curve.
func wordsEdge(s shape.Shape, i int) edge.Edge {
	ahead, v := s.Records[:i], s.Records[i]
	e := edge.Edge{From: wordsPen(ahead), Curved: v.Kind == 5}
	if e.Curved {
		e.Ctrl = api.Point{X: e.From.X + v.CX, Y: e.From.Y + v.CY}
	}
	e.To = api.Point{X: e.From.X + v.CX + v.X, Y: e.From.Y + v.CY + v.Y}
	fills, strokes := wordsCount(s, ahead)
	e.Left = wordsNumber(ahead, fills, func(v api.Record) int { return v.Left })
	e.Right = wordsNumber(ahead, fills, func(v api.Record) int { return v.Right })
	e.Line = wordsNumber(ahead, strokes, func(v api.Record) int { return v.Line })
	return e
}

// wordsPen is where the pen is behind these records: a sum, back to the last Move.
func wordsPen(l []api.Record) api.Point {
	var p api.Point
	for i := len(l) - 1; i >= 0; i-- {
		v := l[i]
		switch v.Kind {
		case 1:
			return api.Point{X: p.X + v.X, Y: p.Y + v.Y}
		case 4, 5:
			p = api.Point{X: p.X + v.X + v.CX, Y: p.Y + v.Y + v.CY}
		}
	}
	return p
}

// wordsCount is how many styles there were ahead of the lists that hold behind these records.
func wordsCount(s shape.Shape, l []api.Record) (fills int, strokes int) {
	s.Records = l
	all := lists(s)
	for _, v := range all[:len(all)-1] {
		fills += len(v.Fills)
		strokes += len(v.Strokes)
	}
	return fills, strokes
}

// wordsNumber is a style's number behind these records: what the last Set told that told it, if there is no Fresh since.
func wordsNumber(l []api.Record, ahead int, part func(api.Record) int) int {
	for i := len(l) - 1; i >= 0 && l[i].Kind != 3; i-- {
		if l[i].Kind != 2 || part(l[i]) == -1 {
			continue
		}
		if part(l[i]) == 0 {
			return 0
		}
		return ahead + part(l[i])
	}
	return 0
}

// wordsTurned tells each field for itself.
func wordsTurned(e edge.Edge) edge.Edge {
	return edge.Edge{
		From: api.Point{X: e.To.X, Y: e.To.Y}, Ctrl: api.Point{X: e.Ctrl.X, Y: e.Ctrl.Y}, To: api.Point{X: e.From.X, Y: e.From.Y},
		Curved: e.Curved, Left: e.Right, Right: e.Left, Line: e.Line,
	}
}
