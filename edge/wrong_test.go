package edge_test

import (
	"testing"

	"celluloid/api"
	"celluloid/edge"
	"celluloid/shape"
)

// good is a right shape with a record of each Kind: what each shape of TestWrong was ahead of its fault.
func good() shape.Shape {
	return of(2, 2, moves(1, 2), sets(1, 2, 2), lines(3, 4), curves(5, 6, 7, 8), freshes(20, 1, 1), sets(1, -1, 0), lines(1, 1))
}

// P15.1: a shape that is not right is ErrArg, with nothing beside it, whatever of it is wrong.
func TestWrong(t *testing.T) {
	if _, e := edge.Of(good()); e != api.OK {
		t.Fatalf("a right shape: error %d", e)
	}
	for _, x := range []struct {
		what  string
		spoil func(s *shape.Shape)
	}{
		{"ID -1", func(s *shape.Shape) { s.ID = -1 }},
		{"ID 65536", func(s *shape.Shape) { s.ID = 65536 }},
		{"the least ID", func(s *shape.Shape) { s.ID = least }},
		{"Bounds that end ahead of their begin", func(s *shape.Shape) { s.Bounds.Right = -1 }},
		{"Bounds too far", func(s *shape.Shape) { s.Bounds.Bottom = 1<<20 + 1 }},
		{"a fill of no kind", func(s *shape.Shape) { s.Fills[0].Kind = 1 }},
		{"a faulty colour", func(s *shape.Shape) { s.Fills[1].Color.R = 256 }},
		{"a fill that has what its kind has not", func(s *shape.Shape) { s.Fills[1].ID = 1 }},
		{"a line of no width", func(s *shape.Shape) { s.Strokes[0].Width = -1 }},
		{"16 fills", func(s *shape.Shape) { s.Fills = marked(1, 16) }},
		{"16 lines", func(s *shape.Shape) { s.Strokes = pens(1, 16) }},
		{"fewer fills than are told", func(s *shape.Shape) { s.Fills = s.Fills[:1] }},
		{"fewer lines than are told", func(s *shape.Shape) { s.Strokes = s.Strokes[:1] }},
		{"Kind 0", func(s *shape.Shape) { s.Records[0].Kind = 0 }},
		{"Kind 6", func(s *shape.Shape) { s.Records[6].Kind = 6 }},
		{"Kind -1", func(s *shape.Shape) { s.Records[6].Kind = -1 }},
		{"a Move too far", func(s *shape.Shape) { s.Records[0].X = 1<<20 + 1 }},
		{"a Move too far up", func(s *shape.Shape) { s.Records[0].Y = -1<<20 - 1 }},
		{"a Move with a style", func(s *shape.Shape) { s.Records[0].Left = 1 }},
		{"a Set of -2", func(s *shape.Shape) { s.Records[1].Left = -2 }},
		{"a Set of no fill", func(s *shape.Shape) { s.Records[1].Right = 3 }},
		{"a Set of no line", func(s *shape.Shape) { s.Records[1].Line = 3 }},
		{"a Set of nothing", func(s *shape.Shape) { s.Records[1] = sets(-1, -1, -1) }},
		{"a Set of the greatest", func(s *shape.Shape) { s.Records[1].Line = most }},
		{"a Line too far", func(s *shape.Shape) { s.Records[2].X = 65536 }},
		{"a Line too far back", func(s *shape.Shape) { s.Records[2].Y = -65537 }},
		{"a Line with a control point", func(s *shape.Shape) { s.Records[2].CX = 1 }},
		{"a Line with fills", func(s *shape.Shape) { s.Records[2].Fills = marked(1, 1) }},
		{"a Curve too far", func(s *shape.Shape) { s.Records[3].CX = 65536 }},
		{"a Curve as far as can be", func(s *shape.Shape) { s.Records[3].Y = least }},
		{"a Fresh of 16 fills", func(s *shape.Shape) { s.Records[4].Fills = marked(1, 16) }},
		{"a Fresh with a wrong line", func(s *shape.Shape) { s.Records[4].Strokes[0].Width = 65536 }},
		{"a Fresh that goes on", func(s *shape.Shape) { s.Records[4].X = 1 }},
		{"a style of the shape's own behind a Fresh", func(s *shape.Shape) { s.Records[5].Left = 2 }},
		{"a line of the shape's own behind a Fresh", func(s *shape.Shape) { s.Records[5].Line = 2 }},
		{"a style behind an empty Fresh", func(s *shape.Shape) { s.Records[4] = freshes(0, 0, 0) }},
	} {
		s := good()
		x.spoil(&s)
		expectNone(t, x.what, s)
	}
}

// P15.1, P1: of any numbers there is the path, if the shape is right, else ErrArg.
func TestMuddled(t *testing.T) {
	d := dice(1501)
	right := 0
	for range 20000 {
		s := d.shape(d.roll(8))
		for range d.roll(3) {
			d.spoil(&s)
		}
		if !shape.Right(s) {
			expectNone(t, "a muddled shape", s)
			continue
		}
		right++
		expectPath(t, s, wordsPath(s))
	}
	if right < 5000 || right > 15000 {
		t.Errorf("%d right ones of 20000", right)
	}
}
