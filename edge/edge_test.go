package edge_test

import (
	"fmt"
	"testing"

	"celluloid/api"
	"celluloid/edge"
	"celluloid/shape"
)

// Records of what they tell alone.

func moves(x int, y int) api.Record { return api.Record{Kind: 1, X: x, Y: y} }

func sets(left int, right int, line int) api.Record {
	return api.Record{Kind: 2, Left: left, Right: right, Line: line}
}

func lines(x int, y int) api.Record { return api.Record{Kind: 4, X: x, Y: y} }

func curves(cx int, cy int, x int, y int) api.Record {
	return api.Record{Kind: 5, CX: cx, CY: cy, X: x, Y: y}
}

// freshes brings fills and lines that begin at these marks, so many of each.
func freshes(mark int, fills int, strokes int) api.Record {
	return api.Record{Kind: 3, Fills: marked(mark, fills), Strokes: pens(mark, strokes)}
}

// marked are fills that can be told from one another: R counts on from mark.
func marked(mark int, count int) []api.Fill {
	var l []api.Fill
	for i := range count {
		l = append(l, api.Fill{Color: api.RGBA{R: mark + i, A: 255}})
	}
	return l
}

// pens are lines whose Width counts on from mark.
func pens(mark int, count int) []api.Stroke {
	var l []api.Stroke
	for i := range count {
		l = append(l, api.Stroke{Width: mark + i, Color: api.RGBA{A: 255}})
	}
	return l
}

// of is a shape with so many styles of its own, marked from 1 on.
func of(fills int, strokes int, l ...api.Record) shape.Shape {
	return shape.Shape{Fills: marked(1, fills), Strokes: pens(1, strokes), Records: l}
}

// straight is an edge without a control point.
func straight(fromX int, fromY int, toX int, toY int, left int, right int, line int) edge.Edge {
	return edge.Edge{From: api.Point{X: fromX, Y: fromY}, To: api.Point{X: toX, Y: toY}, Left: left, Right: right, Line: line}
}

// bent is an edge of no style.
func bent(fromX int, fromY int, ctrlX int, ctrlY int, toX int, toY int) edge.Edge {
	return edge.Edge{From: api.Point{X: fromX, Y: fromY}, Ctrl: api.Point{X: ctrlX, Y: ctrlY}, To: api.Point{X: toX, Y: toY}, Curved: true}
}

// tell is all of a thing as a text: in it a list that is nil is one that is empty.
func tell(v any) string { return fmt.Sprintf("%+v", v) }

// short is what of a text a test tells.
func short(s string) string { return fmt.Sprintf("%.3000s", s) }

func expectPath(t *testing.T, s shape.Shape, want edge.Path) {
	t.Helper()
	got, e := edge.Of(s)
	if e != api.OK || tell(got) != tell(want) {
		t.Errorf("Of(%s)\n= %s, error %d\nwant %s", short(tell(s)), short(tell(got)), e, short(tell(want)))
	}
}

// expectEdges asks for the edges alone.
func expectEdges(t *testing.T, s shape.Shape, want ...edge.Edge) {
	t.Helper()
	got, e := edge.Of(s)
	if e != api.OK || tell(got.Edges) != tell(want) {
		t.Errorf("Of(%s)\n= %s, error %d\nwant %s", short(tell(s)), short(tell(got.Edges)), e, short(tell(want)))
	}
}

func expectNone(t *testing.T, what string, s shape.Shape) {
	t.Helper()
	got, e := edge.Of(s)
	if e != api.ErrArg || got.Fills != nil || got.Strokes != nil || got.Edges != nil {
		t.Errorf("%s: %s, error %d", what, short(tell(got)), e)
	}
}

// P15.1: the chapter's example.
func TestExample(t *testing.T) {
	expectEdges(t, of(1, 0, sets(-1, 1, -1), lines(20, 0)), straight(0, 0, 20, 0, 0, 1, 0))
	expectPath(t, of(1, 0, sets(-1, 1, -1), lines(20, 0)), edge.Path{
		Fills: marked(1, 1),
		Edges: []edge.Edge{{To: api.Point{X: 20}, Right: 1}},
	})
}

// P15.1: a shape without records, or with such alone that go nowhere, has its styles, and no edges.
func TestNoEdges(t *testing.T) {
	expectPath(t, shape.Shape{}, edge.Path{})
	expectPath(t, shape.Shape{Fills: []api.Fill{}, Strokes: []api.Stroke{}, Records: []api.Record{}}, edge.Path{})
	expectPath(t, of(2, 3), edge.Path{Fills: marked(1, 2), Strokes: pens(1, 3)})
	expectPath(t, of(15, 0), edge.Path{Fills: marked(1, 15)})
	expectPath(t, of(0, 15), edge.Path{Strokes: pens(1, 15)})
	expectPath(t, of(1, 1, moves(5, 6)), edge.Path{Fills: marked(1, 1), Strokes: pens(1, 1)})
	expectPath(t, of(1, 1, sets(1, 1, 1), moves(5, 6), sets(0, 0, 0)), edge.Path{Fills: marked(1, 1), Strokes: pens(1, 1)})
	expectPath(t, of(1, 1, freshes(9, 1, 2)), edge.Path{
		Fills:   append(marked(1, 1), marked(9, 1)...),
		Strokes: append(pens(1, 1), pens(9, 2)...),
	})
}

// P15.1: ID and Bounds have no part in the path.
func TestIDAndBounds(t *testing.T) {
	s := of(1, 1, sets(1, -1, 1), lines(7, 8))
	s.ID, s.Bounds = 65535, api.Rect{Left: -1 << 20, Right: 1 << 20, Top: 4, Bottom: 5}
	expectEdges(t, s, straight(0, 0, 7, 8, 1, 0, 1))
}

// P15.1, P15.3: the pen begins at (0, 0), with 0, 0, 0, and each Line goes on from where the one ahead of it ended.
func TestLines(t *testing.T) {
	expectEdges(t, of(15, 15, lines(3, 4)), straight(0, 0, 3, 4, 0, 0, 0))
	expectEdges(t, of(0, 0, lines(3, 4), lines(-5, 0), lines(0, -9), lines(65535, -65536)),
		straight(0, 0, 3, 4, 0, 0, 0), straight(3, 4, -2, 4, 0, 0, 0),
		straight(-2, 4, -2, -5, 0, 0, 0), straight(-2, -5, 65533, -65541, 0, 0, 0))
	expectEdges(t, of(0, 0, lines(0, 0), lines(1, 0), lines(0, 0)),
		straight(0, 0, 0, 0, 0, 0, 0), straight(0, 0, 1, 0, 0, 0, 0), straight(1, 0, 1, 0, 0, 0, 0))
}

// P15.1: a Curve goes by its control point, and on from there to its end.
func TestCurves(t *testing.T) {
	expectEdges(t, of(0, 0, curves(1, 20, 300, 4000)), bent(0, 0, 1, 20, 301, 4020))
	expectEdges(t, of(0, 0, curves(-1, -20, -300, -4000), curves(7, 0, 0, 9)), bent(0, 0, -1, -20, -301, -4020), bent(-301, -4020, -294, -4020, -294, -4011))
	expectEdges(t, of(0, 0, curves(0, 0, 0, 0)), bent(0, 0, 0, 0, 0, 0))
	expectEdges(t, of(0, 0, curves(5, 5, -5, -5)), bent(0, 0, 5, 5, 0, 0))
	expectEdges(t, of(0, 0, lines(1, 2), curves(10, 20, 100, 200), lines(1000, 2000)),
		straight(0, 0, 1, 2, 0, 0, 0), bent(1, 2, 11, 22, 111, 222), straight(111, 222, 1111, 2222, 0, 0, 0))
	expectEdges(t, of(2, 2, sets(1, 2, 2), curves(1, 2, 3, 4)),
		edge.Edge{Ctrl: api.Point{X: 1, Y: 2}, To: api.Point{X: 4, Y: 6}, Curved: true, Left: 1, Right: 2, Line: 2})
}

// P15.1: the farthest that a Curve goes, each part for itself.
func TestFarCurves(t *testing.T) {
	expectEdges(t, of(0, 0, curves(65535, -65536, 65535, -65536)), bent(0, 0, 65535, -65536, 131070, -131072))
	expectEdges(t, of(0, 0, curves(-65536, 65535, 65535, -65536)), bent(0, 0, -65536, 65535, -1, -1))
	expectEdges(t, of(0, 0, moves(1048576, -1048576), curves(65535, -65536, 65535, -65536)),
		bent(1048576, -1048576, 1114111, -1114112, 1179646, -1179648))
}

// P15.1, P15.3: a Move lays the pen down where it tells, and is no edge; the last one holds; styles stay as they were.
func TestMoves(t *testing.T) {
	expectEdges(t, of(0, 0, moves(10, -20), lines(1, 2)), straight(10, -20, 11, -18, 0, 0, 0))
	expectEdges(t, of(0, 0, lines(1, 2), moves(10, 20), lines(3, 4), lines(5, 6), moves(-7, -8), lines(1, 1)),
		straight(0, 0, 1, 2, 0, 0, 0), straight(10, 20, 13, 24, 0, 0, 0), straight(13, 24, 18, 30, 0, 0, 0), straight(-7, -8, -6, -7, 0, 0, 0))
	expectEdges(t, of(0, 0, moves(10, 20), moves(30, 40), lines(1, 1)), straight(30, 40, 31, 41, 0, 0, 0))
	expectEdges(t, of(0, 0, lines(5, 6), moves(0, 0), lines(1, 1)), straight(0, 0, 5, 6, 0, 0, 0), straight(0, 0, 1, 1, 0, 0, 0))
	expectEdges(t, of(0, 0, moves(10, 20), curves(1, 2, 3, 4), moves(5, 5), curves(1, 1, 1, 1)), bent(10, 20, 11, 22, 14, 26), bent(5, 5, 6, 6, 7, 7))
	expectEdges(t, of(0, 0, moves(1048576, 1048576), lines(65535, 65535), moves(-1048576, -1048576), lines(-65536, -65536)),
		straight(1048576, 1048576, 1114111, 1114111, 0, 0, 0), straight(-1048576, -1048576, -1114112, -1114112, 0, 0, 0))
	expectEdges(t, of(3, 3, sets(1, 2, 3), moves(4, 5), lines(1, 1)), straight(4, 5, 5, 6, 1, 2, 3))
}

// P15.1: a Move that ends the records, or stands ahead of styles, does nothing else.
func TestMovesAmongStyles(t *testing.T) {
	expectEdges(t, of(1, 1, moves(4, 5), sets(1, 1, 1), lines(1, 1), moves(9, 9)), straight(4, 5, 5, 6, 1, 1, 1))
	expectEdges(t, of(1, 1, moves(4, 5), freshes(9, 1, 1), lines(1, 1)), straight(4, 5, 5, 6, 0, 0, 0))
	expectEdges(t, of(1, 1, lines(4, 5), sets(0, 1, -1), lines(1, 1)), straight(0, 0, 4, 5, 0, 0, 0), straight(4, 5, 5, 6, 0, 1, 0))
}

// P15.1: of Left, Right and Line a Set changes each that is not -1, and none of the others.
func TestSets(t *testing.T) {
	for _, x := range []struct {
		records []api.Record
		want    [3]int
	}{
		{[]api.Record{sets(0, 0, 0)}, [3]int{0, 0, 0}},
		{[]api.Record{sets(1, -1, -1)}, [3]int{1, 0, 0}},
		{[]api.Record{sets(-1, 2, -1)}, [3]int{0, 2, 0}},
		{[]api.Record{sets(-1, -1, 3)}, [3]int{0, 0, 3}},
		{[]api.Record{sets(4, 5, 3)}, [3]int{4, 5, 3}},
		{[]api.Record{sets(15, 14, 12)}, [3]int{15, 14, 12}},
		{[]api.Record{sets(14, 15, 13)}, [3]int{14, 15, 13}},
		{[]api.Record{sets(1, 2, 3), sets(4, -1, -1)}, [3]int{4, 2, 3}},
		{[]api.Record{sets(1, 2, 3), sets(-1, 4, -1)}, [3]int{1, 4, 3}},
		{[]api.Record{sets(1, 2, 3), sets(-1, -1, 4)}, [3]int{1, 2, 4}},
		{[]api.Record{sets(1, 2, 3), sets(0, -1, -1)}, [3]int{0, 2, 3}},
		{[]api.Record{sets(1, 2, 3), sets(-1, 0, -1)}, [3]int{1, 0, 3}},
		{[]api.Record{sets(1, 2, 3), sets(-1, -1, 0)}, [3]int{1, 2, 0}},
		{[]api.Record{sets(1, 2, 3), sets(0, 0, 0)}, [3]int{0, 0, 0}},
		{[]api.Record{sets(1, 2, 3), sets(4, 5, 6)}, [3]int{4, 5, 6}},
		{[]api.Record{sets(1, 2, 3), sets(0, 0, 0), sets(-1, 7, -1)}, [3]int{0, 7, 0}},
		{[]api.Record{sets(1, -1, -1), sets(-1, 2, -1), sets(-1, -1, 3)}, [3]int{1, 2, 3}},
		{[]api.Record{sets(1, -1, 0), sets(2, -1, 1), sets(-1, 0, -1), sets(3, -1, -1)}, [3]int{3, 0, 1}},
		{[]api.Record{sets(8, 8, 8), sets(8, -1, -1)}, [3]int{8, 8, 8}},
	} {
		l := append(x.records, lines(1, 2))
		expectEdges(t, of(15, 13, l...), straight(0, 0, 1, 2, x.want[0], x.want[1], x.want[2]))
	}
}

// P15.1: what a Set told holds for all edges until the next one; edges ahead of it stay as they were.
func TestSetsHold(t *testing.T) {
	expectEdges(t, of(2, 1, lines(1, 0), sets(1, -1, -1), lines(1, 0), lines(1, 0), sets(0, 2, 1), lines(1, 0), lines(1, 0), sets(-1, -1, 0), lines(1, 0)),
		straight(0, 0, 1, 0, 0, 0, 0), straight(1, 0, 2, 0, 1, 0, 0), straight(2, 0, 3, 0, 1, 0, 0),
		straight(3, 0, 4, 0, 0, 2, 1), straight(4, 0, 5, 0, 0, 2, 1), straight(5, 0, 6, 0, 0, 2, 0))
}

// P15.1: behind a Fresh, Left, Right and Line are 0 until a Set, and numbers are those of its list, behind all that there were.
func TestFresh(t *testing.T) {
	s := of(3, 2, sets(3, 1, 2), lines(1, 0), freshes(20, 4, 5), lines(1, 0), sets(-1, 4, -1), lines(1, 0), sets(2, -1, 5), lines(1, 0), sets(-1, 0, 1), lines(1, 0))
	expectPath(t, s, edge.Path{
		Fills:   append(marked(1, 3), marked(20, 4)...),
		Strokes: append(pens(1, 2), pens(20, 5)...),
		Edges: []edge.Edge{
			straight(0, 0, 1, 0, 3, 1, 2), straight(1, 0, 2, 0, 0, 0, 0), straight(2, 0, 3, 0, 0, 7, 0),
			straight(3, 0, 4, 0, 5, 7, 7), straight(4, 0, 5, 0, 5, 0, 3),
		},
	})
}

// P15.1: several Fresh: each counts from behind all that there were, fills and lines for themselves.
func TestSeveralFresh(t *testing.T) {
	s := of(1, 2, freshes(20, 3, 1), sets(3, 1, 1), lines(1, 0), freshes(40, 2, 4), sets(1, 2, 4), lines(1, 0), freshes(60, 15, 15), sets(15, 1, 15), lines(1, 0))
	expectPath(t, s, edge.Path{
		Fills:   append(append(append(marked(1, 1), marked(20, 3)...), marked(40, 2)...), marked(60, 15)...),
		Strokes: append(append(append(pens(1, 2), pens(20, 1)...), pens(40, 4)...), pens(60, 15)...),
		Edges:   []edge.Edge{straight(0, 0, 1, 0, 4, 2, 3), straight(1, 0, 2, 0, 5, 6, 7), straight(2, 0, 3, 0, 21, 7, 22)},
	})
}

// P15.1: Fresh one behind the other: the last one's list holds, and those ahead of it count.
func TestFreshBehindFresh(t *testing.T) {
	s := of(2, 1, sets(2, 2, 1), freshes(20, 3, 4), freshes(40, 5, 6), freshes(60, 1, 1), lines(1, 0), sets(1, -1, 1), lines(1, 0))
	expectPath(t, s, edge.Path{
		Fills:   append(append(append(marked(1, 2), marked(20, 3)...), marked(40, 5)...), marked(60, 1)...),
		Strokes: append(append(append(pens(1, 1), pens(20, 4)...), pens(40, 6)...), pens(60, 1)...),
		Edges:   []edge.Edge{straight(0, 0, 1, 0, 0, 0, 0), straight(1, 0, 2, 0, 11, 0, 12)},
	})
}

// P15.1: an empty list brings no style, and takes the choice; of one that has fills or lines alone the other is empty.
func TestEmptyFresh(t *testing.T) {
	expectPath(t, of(2, 2, sets(1, 2, 2), freshes(0, 0, 0), lines(1, 0), sets(0, 0, 0), lines(1, 0)), edge.Path{
		Fills: marked(1, 2), Strokes: pens(1, 2),
		Edges: []edge.Edge{straight(0, 0, 1, 0, 0, 0, 0), straight(1, 0, 2, 0, 0, 0, 0)},
	})
	expectPath(t, of(2, 2, freshes(0, 0, 0), freshes(20, 1, 1), sets(1, -1, 1), lines(1, 0)), edge.Path{
		Fills: append(marked(1, 2), marked(20, 1)...), Strokes: append(pens(1, 2), pens(20, 1)...),
		Edges: []edge.Edge{straight(0, 0, 1, 0, 3, 0, 3)},
	})
	expectPath(t, of(0, 0, freshes(20, 1, 1), sets(1, 1, 1), lines(1, 0)), edge.Path{
		Fills: marked(20, 1), Strokes: pens(20, 1),
		Edges: []edge.Edge{straight(0, 0, 1, 0, 1, 1, 1)},
	})
	expectEdges(t, of(2, 2, freshes(20, 1, 0), freshes(20, 0, 1), freshes(20, 1, 1), sets(1, -1, 1), lines(1, 0)), straight(0, 0, 1, 0, 4, 0, 4))
	expectEdges(t, of(2, 2, freshes(20, 3, 0), sets(3, -1, -1), lines(1, 0)), straight(0, 0, 1, 0, 5, 0, 0))
	expectEdges(t, of(2, 2, freshes(20, 0, 3), sets(-1, -1, 3), lines(1, 0)), straight(0, 0, 1, 0, 0, 0, 5))
}

// P15.1, P15.3: a Fresh leaves the pen where it is.
func TestFreshKeepsPlace(t *testing.T) {
	expectEdges(t, of(1, 1, moves(5, 6), freshes(20, 1, 1), lines(1, 2)), straight(5, 6, 6, 8, 0, 0, 0))
	expectEdges(t, of(1, 1, lines(5, 6), freshes(20, 1, 1), curves(1, 2, 3, 4)), straight(0, 0, 5, 6, 0, 0, 0), bent(5, 6, 6, 8, 9, 12))
}

// P15.1: fills of all kinds, and lines, stand in the path as they stood in the lists.
func TestStylesWhole(t *testing.T) {
	matrix := api.Matrix{A: 1, B: -2, C: 3, D: -4, X: 5, Y: -6}
	stops := []api.Stop{{Ratio: 1, Color: api.RGBA{R: 1, G: 2, B: 3, A: 4}}, {Ratio: 255, Color: api.RGBA{R: 9, A: 9}}}
	own := []api.Fill{
		{Kind: 16, Matrix: matrix, Spread: 2, Stops: stops}, {Kind: 65, Matrix: matrix, ID: 7},
		{Color: api.RGBA{R: 5, G: 6, B: 7, A: 8}},
	}
	fresh := []api.Fill{{Kind: 64, Matrix: matrix, ID: 65535}, {Kind: 18, Matrix: matrix, Spread: 1, Stops: stops[:1]}}
	strokes := []api.Stroke{{Width: 65535, Color: api.RGBA{R: 1, G: 2, B: 3, A: 4}}, {}}
	s := shape.Shape{Fills: own, Strokes: strokes, Records: []api.Record{{Kind: 3, Fills: fresh, Strokes: strokes[:1]}, lines(1, 0)}}
	p, e := edge.Of(s)
	want := edge.Path{
		Fills: []api.Fill{own[0], own[1], own[2], fresh[0], fresh[1]}, Strokes: []api.Stroke{strokes[0], strokes[1], strokes[0]},
		Edges: []edge.Edge{straight(0, 0, 1, 0, 0, 0, 0)},
	}
	if e != api.OK || tell(p) != tell(want) {
		t.Errorf("%+v, error %d, want %+v", p, e, want)
	}
}

// P15.1: 512 records of each Kind, and one more.
func TestMostRecords(t *testing.T) {
	for _, v := range []api.Record{moves(1, 2), sets(1, 1, 1), freshes(20, 15, 15), lines(65535, -65536), curves(65535, -65536, 65535, -65536)} {
		s := of(15, 15)
		for range 512 {
			s.Records = append(s.Records, v)
		}
		expectPath(t, s, wordsPath(s))
		s.Records = append(s.Records, v)
		expectNone(t, fmt.Sprintf("513 records of Kind %d", v.Kind), s)
	}
}

// P15.1, P15.3: the farthest that a pen may go, and the greatest number that a style may have.
func TestFarthest(t *testing.T) {
	s := of(0, 0, moves(1048576, -1048576))
	for range 511 {
		s.Records = append(s.Records, curves(65535, -65536, 65535, -65536))
	}
	p, e := edge.Of(s)
	if e != api.OK || len(p.Edges) != 511 || p.Edges[510].To != (api.Point{X: 1048576 + 1022*65535, Y: -1048576 - 1022*65536}) {
		t.Errorf("%d edges, error %d", len(p.Edges), e)
	}
	s = of(15, 15)
	for range 510 {
		s.Records = append(s.Records, freshes(20, 15, 15))
	}
	s.Records = append(s.Records, sets(15, 14, 13), lines(1, 0))
	p, e = edge.Of(s)
	if e != api.OK || len(p.Fills) != 7665 || len(p.Strokes) != 7665 || tell(p.Edges) != tell([]edge.Edge{straight(0, 0, 1, 0, 7665, 7664, 7663)}) {
		t.Errorf("%d fills, %d lines, %+v, error %d", len(p.Fills), len(p.Strokes), p.Edges, e)
	}
}
