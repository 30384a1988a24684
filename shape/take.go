package shape

import (
	"celluloid/api"
	"celluloid/bits"
	"celluloid/field"
	"celluloid/style"
)

// Take: the shape that stands at r, and the reader behind it.
func Take(r bits.Reader) (Shape, bits.Reader, api.Errno) {
	id, r, e := bits.Little(r, 2)
	if e != api.OK {
		return Shape{}, bits.Reader{}, e
	}
	bounds, r, e := field.TakeRect(r)
	if e != api.OK {
		return Shape{}, bits.Reader{}, e
	}
	fills, strokes, r, e := style.Take(r)
	if e != api.OK {
		return Shape{}, bits.Reader{}, e
	}
	l, r, e := TakeRecords(r, len(fills), len(strokes), Any)
	if e != api.OK {
		return Shape{}, bits.Reader{}, e
	}
	return Shape{ID: id, Bounds: bounds, Fills: fills, Strokes: strokes, Records: l}, r, api.OK
}

// TakeRecords: the records that stand at r beside so many fills and lines, and the reader behind them.
func TakeRecords(r bits.Reader, fills int, strokes int, kind int) ([]api.Record, bits.Reader, api.Errno) {
	if !rightPlace(fills, strokes, kind) {
		return nil, bits.Reader{}, api.ErrArg
	}
	t := &taker{r: bits.Align(r), kind: kind, fills: fills, strokes: strokes}
	t.widths()
	for t.record() {
	}
	if t.e != api.OK {
		return nil, bits.Reader{}, t.e
	}
	return t.l, bits.Align(t.r), api.OK
}

// taker takes one thing after another and keeps the first error; behind it nothing is read any more, and all is 0. It knows how many styles there are, in which widths they are told, and what was taken.
type taker struct {
	r                    bits.Reader
	e                    api.Errno
	kind                 int
	fills, strokes       int
	fillBits, strokeBits int
	l                    []api.Record
}

func (t *taker) plain(n int) int {
	return t.number(n, bits.Plain)
}

func (t *taker) signed(n int) int {
	return t.number(n, bits.Signed)
}

// number of the next n bits, read in a way of layer 2.
func (t *taker) number(n int, read func(bits.Reader, int) (int, bits.Reader, api.Errno)) int {
	v := 0
	if t.e == api.OK {
		v, t.r, t.e = read(t.r, n)
	}
	return v
}

// demand tells an error of what was read last, unless there was one ahead of it.
func (t *taker) demand(holds bool, e api.Errno) {
	if t.e == api.OK && !holds {
		t.e = e
	}
}

// add takes a record.
func (t *taker) add(v api.Record) {
	t.demand(len(t.l) < api.MaxItems, api.ErrLimit)
	if t.e == api.OK {
		t.l = append(t.l, v)
	}
}

// widths of the numbers of styles.
func (t *taker) widths() {
	t.fillBits = t.plain(styleSize)
	t.strokeBits = t.plain(styleSize)
}

// record takes what the next one tells: was there one? Behind an error all is 0, and so there is none.
func (t *taker) record() bool {
	if t.plain(1) == 1 {
		if t.plain(1) == 1 {
			t.line()
		} else {
			t.curve()
		}
		return true
	}
	told := t.plain(tellBits)
	if told != 0 {
		t.several(told)
	}
	return told != 0
}

// several takes all that a record tells whose first bit is 0. Whether its numbers are right hangs on the styles that it brings itself, which stand last.
func (t *taker) several(told int) {
	t.demand(told&tellsFresh == 0 || allowed(api.Fresh, t.kind), api.ErrField)
	t.demand(told&tellsSet == 0 || allowed(api.Set, t.kind), api.ErrField)
	var l []api.Record
	if told&tellsMove != 0 {
		l = append(l, t.move())
	}
	if told&tellsSet != 0 {
		l = append(l, t.set(told))
	}
	if told&tellsFresh != 0 {
		t.fresh()
	}
	for _, v := range l {
		t.demand(rightRecord(t.fills, t.strokes, v), api.ErrField)
	}
	for _, v := range l {
		t.add(v)
	}
}

func (t *taker) move() api.Record {
	n := t.plain(placeSize)
	x := t.signed(n)
	return api.Record{Kind: api.Move, X: x, Y: t.signed(n)}
}

func (t *taker) set(told int) api.Record {
	left := t.style(told&tellsLeft, t.fillBits)
	right := t.style(told&tellsRight, t.fillBits)
	return api.Record{Kind: api.Set, Left: left, Right: right, Line: t.style(told&tellsLine, t.strokeBits)}
}

// style is the number of one, if it is told.
func (t *taker) style(told int, n int) int {
	if told == 0 {
		return asItIs
	}
	return t.plain(n)
}

// fresh takes new styles: what follows stands beside these.
func (t *taker) fresh() {
	if t.e != api.OK {
		return
	}
	v := api.Record{Kind: api.Fresh}
	v.Fills, v.Strokes, t.r, t.e = style.Take(t.r)
	t.widths()
	t.fills, t.strokes = len(v.Fills), len(v.Strokes)
	t.add(v)
}

// line takes a Line. Its numbers fit always, as their greatest width is that of those that are right.
func (t *taker) line() {
	v := api.Record{Kind: api.Line}
	n := t.plain(waySize) + leastBits
	both := t.plain(1) == 1
	upright := !both && t.plain(1) == 1
	if !upright {
		v.X = t.signed(n)
	}
	if both || upright {
		v.Y = t.signed(n)
	}
	t.add(v)
}

// curve takes a Curve; its numbers fit always, as a Line's do.
func (t *taker) curve() {
	v := api.Record{Kind: api.Curve}
	n := t.plain(waySize) + leastBits
	v.CX = t.signed(n)
	v.CY = t.signed(n)
	v.X = t.signed(n)
	v.Y = t.signed(n)
	t.add(v)
}
