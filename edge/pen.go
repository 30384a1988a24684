package edge

import "celluloid/api"

// What a Set tells of a style that it leaves as it is, and of one that there shall not be.
const (
	asItIs = -1
	none   = 0
)

// pen follows records that are right, and keeps what they have told.
type pen struct {
	path              Path
	at                api.Point
	left, right, line int
	// How many styles there were ahead of the lists that hold now: a Set counts from there.
	fillsAhead, strokesAhead int
}

// follow goes on as the record tells.
func (p *pen) follow(v api.Record) {
	switch v.Kind {
	case api.Move:
		p.at = api.Point{X: v.X, Y: v.Y}
	case api.Set:
		p.left = chosen(v.Left, p.left, p.fillsAhead)
		p.right = chosen(v.Right, p.right, p.fillsAhead)
		p.line = chosen(v.Line, p.line, p.strokesAhead)
	case api.Fresh:
		p.bring(v.Fills, v.Strokes)
	case api.Line:
		p.draw(Edge{To: beyond(p.at, v.X, v.Y)})
	case api.Curve:
		ctrl := beyond(p.at, v.CX, v.CY)
		p.draw(Edge{Ctrl: ctrl, To: beyond(ctrl, v.X, v.Y), Curved: true})
	}
}

// bring lays lists behind all that there are: they hold now, and none of them is chosen yet.
func (p *pen) bring(fills []api.Fill, strokes []api.Stroke) {
	p.fillsAhead, p.strokesAhead = len(p.path.Fills), len(p.path.Strokes)
	p.path.Fills = append(p.path.Fills, fills...)
	p.path.Strokes = append(p.path.Strokes, strokes...)
	p.left, p.right, p.line = none, none, none
}

// draw goes to the edge's end, and keeps it with all that the pen knows of it.
func (p *pen) draw(e Edge) {
	e.From, e.Left, e.Right, e.Line = p.at, p.left, p.right, p.line
	p.path.Edges = append(p.path.Edges, e)
	p.at = e.To
}

// chosen is the number of a style behind a Set that tells it so, now being the one ahead of it.
func chosen(told int, now int, ahead int) int {
	switch told {
	case asItIs:
		return now
	case none:
		return none
	}
	return ahead + told
}

// beyond is the point so much further.
func beyond(p api.Point, x int, y int) api.Point {
	return api.Point{X: p.X + x, Y: p.Y + y}
}
