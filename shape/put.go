package shape

import (
	"celluloid/api"
	"celluloid/bits"
	"celluloid/field"
	"celluloid/style"
)

// How many bits tell the width of a number of a style, of a number of a Move, and of one of a Line or a Curve, which is told less the least that it may be.
const (
	styleSize = 4
	placeSize = 5
	waySize   = 4
	leastBits = 2
)

// What a record whose first bit is 0 tells, in so many bits behind it; 0 is the end.
const (
	tellBits   = 5
	tellsMove  = 1
	tellsLeft  = 1 << 1
	tellsRight = 1 << 2
	tellsLine  = 1 << 3
	tellsFresh = 1 << 4
	tellsSet   = tellsLeft | tellsRight | tellsLine
)

// The first two bits of a Line and of a Curve.
const (
	lineHead  = 3
	curveHead = 2
)

// Put: a shape behind w.
func Put(w bits.Writer, s Shape) (bits.Writer, api.Errno) {
	if !Right(s) {
		return bits.Writer{}, api.ErrArg
	}
	// The shape is written for itself first: so w's bytes, which may be many, are copied once. What is right fits always, here and below, so there is no error to ask for.
	body, _ := bits.PutLittle(bits.Writer{}, s.ID, 2)
	body, _ = field.PutRect(body, s.Bounds)
	body, _ = style.Put(body, s.Fills, s.Strokes)
	body, _ = PutRecords(body, len(s.Fills), len(s.Strokes), s.Records, Any)
	return bits.PutBytes(w, body.S), api.OK
}

// PutRecords: records behind w.
func PutRecords(w bits.Writer, fills int, strokes int, l []api.Record, kind int) (bits.Writer, api.Errno) {
	if !RightRecords(fills, strokes, l, kind) {
		return bits.Writer{}, api.ErrArg
	}
	p := &putter{}
	p.widths(fills, strokes)
	for _, v := range l {
		p.record(v)
		p.settle()
	}
	p.plain(0, 1+tellBits)
	p.w = bits.PutAlign(p.w)
	p.settle()
	return bits.PutBytes(w, string(p.done)), api.OK
}

// putter lays bits behind one another. Layer 2 copies a writer whenever it lays something behind it, so the bytes that are whole are kept apart.
type putter struct {
	done                 []byte
	w                    bits.Writer
	fillBits, strokeBits int
}

// settle takes the whole bytes from the writer.
func (p *putter) settle() {
	whole := len(p.w.S)
	if p.w.Free > 0 {
		whole--
	}
	p.done = append(p.done, p.w.S[:whole]...)
	p.w.S = p.w.S[whole:]
}

func (p *putter) plain(v int, n int) {
	p.w, _ = bits.PutPlain(p.w, v, n)
}

func (p *putter) signed(n int, l ...int) {
	for _, v := range l {
		p.w, _ = bits.PutSigned(p.w, v, n)
	}
}

// widths of the numbers of so many styles; those behind stand in them.
func (p *putter) widths(fills int, strokes int) {
	p.fillBits, p.strokeBits = bits.PlainWidth(fills), bits.PlainWidth(strokes)
	p.plain(p.fillBits, styleSize)
	p.plain(p.strokeBits, styleSize)
}

func (p *putter) record(v api.Record) {
	switch v.Kind {
	case api.Move:
		p.plain(tellsMove, 1+tellBits)
		n := bits.Width(v.X, v.Y)
		p.plain(n, placeSize)
		p.signed(n, v.X, v.Y)
	case api.Set:
		p.set(v)
	case api.Fresh:
		p.plain(tellsFresh, 1+tellBits)
		p.w, _ = style.Put(p.w, v.Fills, v.Strokes)
		p.widths(len(v.Fills), len(v.Strokes))
	case api.Line:
		p.line(v)
	case api.Curve:
		p.plain(curveHead, 2)
		p.signed(p.way(v.CX, v.CY, v.X, v.Y), v.CX, v.CY, v.X, v.Y)
	}
}

func (p *putter) set(v api.Record) {
	told := 0
	if v.Left != asItIs {
		told |= tellsLeft
	}
	if v.Right != asItIs {
		told |= tellsRight
	}
	if v.Line != asItIs {
		told |= tellsLine
	}
	p.plain(told, 1+tellBits)
	p.style(v.Left, p.fillBits)
	p.style(v.Right, p.fillBits)
	p.style(v.Line, p.strokeBits)
}

// style lays a style's number, if it is told.
func (p *putter) style(v int, n int) {
	if v != asItIs {
		p.plain(v, n)
	}
}

func (p *putter) line(v api.Record) {
	p.plain(lineHead, 2)
	n := p.way(v.X, v.Y)
	switch {
	case v.X != 0 && v.Y != 0:
		p.plain(1, 1)
		p.signed(n, v.X, v.Y)
	case v.X == 0:
		p.plain(1, 2)
		p.signed(n, v.Y)
	default:
		p.plain(0, 2)
		p.signed(n, v.X)
	}
}

// way lays the width of a Line's numbers, or of a Curve's, and tells it.
func (p *putter) way(l ...int) int {
	n := max(bits.Width(l...), leastBits)
	p.plain(n-leastBits, waySize)
	return n
}
