package edge_test

import (
	"testing"

	"celluloid/api"
	"celluloid/edge"
	"celluloid/shape"
)

// P15.1: any right shape, by the chapter's words written a second time.
func TestWords(t *testing.T) {
	d := dice(1502)
	for range 4000 {
		s := d.shape(d.roll(40))
		expectPath(t, s, wordsPath(s))
	}
	for range 20 {
		s := d.shape(512)
		expectPath(t, s, wordsPath(s))
	}
}

// P15.2: From and To, Left and Right are changed, and nothing else.
func TestTurned(t *testing.T) {
	line := straight(1, 2, 3, 4, 5, 6, 7)
	if got := edge.Turned(line); got != straight(3, 4, 1, 2, 6, 5, 7) {
		t.Errorf("Turned(%+v) = %+v", line, got)
	}
	curve := edge.Edge{From: api.Point{X: 1, Y: -2}, Ctrl: api.Point{X: 30, Y: -40}, To: api.Point{X: 500, Y: -600}, Curved: true, Left: 0, Right: 8, Line: 9}
	want := edge.Edge{From: api.Point{X: 500, Y: -600}, Ctrl: api.Point{X: 30, Y: -40}, To: api.Point{X: 1, Y: -2}, Curved: true, Left: 8, Right: 0, Line: 9}
	if got := edge.Turned(curve); got != want {
		t.Errorf("Turned(%+v) = %+v", curve, got)
	}
	if got := edge.Turned(edge.Edge{}); got != (edge.Edge{}) {
		t.Errorf("Turned of none = %+v", got)
	}
}

// P15.2, P1: any edge, and that turned twice it is what it was.
func TestTurnedTwice(t *testing.T) {
	d := dice(1503)
	for range 20000 {
		e := d.edge()
		once := edge.Turned(e)
		if once != wordsTurned(e) {
			t.Errorf("Turned(%+v) = %+v", e, once)
		}
		if twice := edge.Turned(once); twice != e {
			t.Errorf("Turned twice, %+v = %+v", e, twice)
		}
	}
}

// follow holds a path's edges against the records: each begins where the pen is, and has numbers of styles that there are by then.
func follow(t *testing.T, s shape.Shape, p edge.Path) {
	t.Helper()
	var at api.Point
	fills, strokes, i := len(s.Fills), len(s.Strokes), 0
	for _, v := range s.Records {
		switch v.Kind {
		case api.Move:
			at = api.Point{X: v.X, Y: v.Y}
		case api.Fresh:
			fills, strokes = fills+len(v.Fills), strokes+len(v.Strokes)
		case api.Line, api.Curve:
			if i >= len(p.Edges) {
				t.Fatalf("%d edges, and there are more records of such", i)
			}
			e := p.Edges[i]
			if e.From != at {
				t.Errorf("edge %d begins at %+v, the pen is at %+v", i, e.From, at)
			}
			if e.Left < 0 || e.Left > fills || e.Right < 0 || e.Right > fills || e.Line < 0 || e.Line > strokes {
				t.Errorf("edge %d has %d, %d, %d of %d and %d styles", i, e.Left, e.Right, e.Line, fills, strokes)
			}
			if e.Curved != (v.Kind == api.Curve) || !e.Curved && e.Ctrl != (api.Point{}) {
				t.Errorf("edge %d is %+v", i, e)
			}
			at = e.To
			i++
		}
	}
	if i != len(p.Edges) || fills != len(p.Fills) || strokes != len(p.Strokes) {
		t.Errorf("%d edges of %d, %d fills of %d, %d lines of %d", len(p.Edges), i, len(p.Fills), fills, len(p.Strokes), strokes)
	}
}

// P15.3: each edge begins where the one ahead ended, or where a Move lies; its numbers are those of styles that there are.
func TestFollows(t *testing.T) {
	d := dice(1504)
	for range 3000 {
		s := d.shape(d.roll(60))
		p, e := edge.Of(s)
		if e != api.OK {
			t.Fatalf("error %d", e)
		}
		follow(t, s, p)
	}
}

// P15.3, P15.1: the style that an edge's number tells is the one of the list that held when it was chosen.
func TestNumbersTellStyles(t *testing.T) {
	s := of(2, 2, sets(2, 1, 2), lines(1, 0), freshes(20, 2, 2), sets(2, 1, 2), lines(1, 0), freshes(40, 2, 2), sets(1, 2, 1), lines(1, 0))
	p, _ := edge.Of(s)
	if len(p.Edges) != 3 {
		t.Fatalf("%+v", p)
	}
	for i, want := range [][3]int{{2, 1, 2}, {21, 20, 21}, {40, 41, 40}} {
		e := p.Edges[i]
		got := [3]int{p.Fills[e.Left-1].Color.R, p.Fills[e.Right-1].Color.R, p.Strokes[e.Line-1].Width}
		if got != want {
			t.Errorf("edge %d: %v, want %v", i, got, want)
		}
	}
}

// R1: what Of is handed stays as it was, also what stands behind the ends of its lists.
func TestHandedStays(t *testing.T) {
	d := dice(1505)
	for range 500 {
		s := d.shape(d.roll(30))
		before := copied(s)
		edge.Of(s)
		if tell(s) != tell(before) {
			t.Fatalf("%s became %s", short(tell(before)), short(tell(s)))
		}
	}
	fills, strokes := marked(1, 5), pens(1, 5)
	s := shape.Shape{Fills: fills[:2], Strokes: strokes[:2], Records: []api.Record{freshes(20, 2, 2), lines(1, 0)}}
	edge.Of(s)
	if tell(fills) != tell(marked(1, 5)) || tell(strokes) != tell(pens(1, 5)) {
		t.Errorf("behind the lists: %+v, %+v", fills, strokes)
	}
}

// R1, R4: what was answered ahead stays as it was, and the same shape has the same path.
func TestAnswersStand(t *testing.T) {
	d := dice(1506)
	a, b := d.shape(100), d.shape(100)
	first, _ := edge.Of(a)
	told := tell(first)
	edge.Of(b)
	again, e := edge.Of(a)
	if e != api.OK || tell(first) != told || tell(again) != told {
		t.Errorf("error %d, %s, ahead %s", e, short(tell(again)), short(told))
	}
	clear(again.Edges)
	clear(again.Fills)
	clear(again.Strokes)
	if tell(first) != told {
		t.Errorf("two answers share their lists")
	}
}
