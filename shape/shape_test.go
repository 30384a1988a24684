package shape

import (
	"fmt"
	"slices"
	"strings"
	"testing"

	"celluloid/api"
	"celluloid/bits"
)

// dice are numbers that are always the same ones.
type dice uint64

func (d *dice) roll(count int) int {
	x := uint64(*d)
	x ^= x << 13
	x ^= x >> 7
	x ^= x << 17
	*d = dice(x)
	return int(x>>11) % count
}

// upTo is a number from 0 to most, often one of these.
func (d *dice) upTo(most int) int {
	switch d.roll(6) {
	case 0:
		return 0
	case 1:
		return most
	}
	return d.roll(most + 1)
}

// about is a number from -most to most, of any size.
func (d *dice) about(most int) int {
	return (d.roll(2)*2 - 1) * min(d.upTo(most), 1<<d.roll(24))
}

// way is a number that a Line may have.
func (d *dice) way() int {
	return min(d.about(65536), 65535)
}

func (d *dice) color() api.RGBA {
	return api.RGBA{R: d.upTo(255), G: d.upTo(255), B: d.upTo(255), A: d.upTo(255)}
}

func (d *dice) matrix() api.Matrix {
	m := api.Matrix{A: 65536, D: 65536}
	if d.roll(2) > 0 {
		m.A, m.D = d.about(1<<22), d.about(1<<22)
	}
	if d.roll(2) > 0 {
		m.B, m.C = d.about(1<<22), d.about(1<<22)
	}
	if d.roll(2) > 0 {
		m.X, m.Y = d.about(1<<20), d.about(1<<20)
	}
	return m
}

func (d *dice) fill() api.Fill {
	f := api.Fill{Kind: []int{0, 0, 16, 18, 64, 65}[d.roll(6)]}
	switch f.Kind {
	case 0:
		f.Color = d.color()
	case 16, 18:
		f.Matrix, f.Spread = d.matrix(), d.roll(3)
		for range 1 + d.roll(8) {
			f.Stops = append(f.Stops, api.Stop{Ratio: d.upTo(255), Color: d.color()})
		}
		slices.SortStableFunc(f.Stops, func(a, b api.Stop) int { return a.Ratio - b.Ratio })
	default:
		f.Matrix, f.ID = d.matrix(), d.upTo(65535)
	}
	return f
}

// lists are right ones, of up to so many.
func (d *dice) lists(count int) (fills []api.Fill, strokes []api.Stroke) {
	for range d.roll(count + 1) {
		fills = append(fills, d.fill())
	}
	for range d.roll(count + 1) {
		strokes = append(strokes, api.Stroke{Width: d.upTo(65535), Color: d.color()})
	}
	return fills, strokes
}

func (d *dice) rect() api.Rect {
	x, y := []int{d.about(1 << 20), d.about(1 << 20)}, []int{d.about(1 << 20), d.about(1 << 20)}
	return api.Rect{Left: slices.Min(x), Right: slices.Max(x), Top: slices.Min(y), Bottom: slices.Max(y)}
}

// beside are any styles that there may be, and any kind.
func (d *dice) beside() beside {
	return beside{d.upTo(15), d.upTo(15), d.roll(3)}
}

// set is a right one.
func (d *dice) set(p beside) api.Record {
	v := api.Record{Kind: 2, Left: d.upTo(p.fills+1) - 1, Right: d.upTo(p.fills+1) - 1, Line: d.upTo(p.strokes+1) - 1}
	if v.Left+v.Right+v.Line == -3 {
		v.Right = 0
	}
	return v
}

// record is a right one; lists in it are not long.
func (d *dice) record(p beside) api.Record {
	v := api.Record{Kind: []int{1, 4, 5, 4, 5, 2, 2, 3}[d.roll(8-p.kind-p.kind/2)]}
	switch v.Kind {
	case 1:
		v.X, v.Y = d.about(1<<20), d.about(1<<20)
	case 2:
		return d.set(p)
	case 3:
		v.Fills, v.Strokes = d.lists(3)
	case 4:
		if v.X = d.way(); d.roll(2) > 0 {
			v.Y = d.way()
		}
		if d.roll(4) == 0 {
			v.X = 0
		}
	case 5:
		v.X, v.Y, v.CX, v.CY = d.way(), d.way(), d.way(), d.way()
	}
	return v
}

// records are right ones, so many.
func (d *dice) records(p beside, count int) []api.Record {
	var l []api.Record
	for range count {
		v := d.record(p)
		if v.Kind == 3 {
			p.fills, p.strokes = len(v.Fills), len(v.Strokes)
		}
		l = append(l, v)
	}
	return l
}

func (d *dice) shape(count int) Shape {
	s := Shape{ID: d.upTo(65535), Bounds: d.rect()}
	s.Fills, s.Strokes = d.lists(4)
	s.Records = d.records(beside{len(s.Fills), len(s.Strokes), Any}, count)
	return s
}

var (
	red  = api.Fill{Color: api.RGBA{R: 255, A: 255}}
	tile = api.Fill{Kind: 65, Matrix: api.Matrix{A: 5, B: -6, C: 7, D: 8, X: 9, Y: -10}, ID: 513}
	pen  = api.Stroke{Width: 20, Color: api.RGBA{G: 255, A: 255}}
	thin = api.Stroke{Width: 1}
)

// A right record of each Kind, beside at least one fill and one line.
var (
	move  = api.Record{Kind: 1, X: 3, Y: -4}
	set   = api.Record{Kind: 2, Left: 1, Right: -1, Line: 0}
	fresh = api.Record{Kind: 3, Fills: []api.Fill{red, tile}, Strokes: []api.Stroke{pen}}
	line  = api.Record{Kind: 4, X: 100, Y: 7}
	curve = api.Record{Kind: 5, CX: 1, CY: -2, X: 3, Y: -400}
)

// ramp is a fill with stops.
func ramp() api.Fill {
	return api.Fill{Kind: 16, Matrix: api.Matrix{A: 65536, D: 65536}, Spread: 1, Stops: []api.Stop{{Ratio: 1}, {Ratio: 200, Color: red.Color}}}
}

// sets, moves and lines are records of what they tell alone.
func sets(left int, right int, line int) api.Record {
	return api.Record{Kind: 2, Left: left, Right: right, Line: line}
}

func moves(x int, y int) api.Record { return api.Record{Kind: 1, X: x, Y: y} }

func lines(x int, y int) api.Record { return api.Record{Kind: 4, X: x, Y: y} }

func curves(cx int, cy int, x int, y int) api.Record {
	return api.Record{Kind: 5, CX: cx, CY: cy, X: x, Y: y}
}

func freshes(fills int, strokes int) api.Record {
	return api.Record{Kind: 3, Fills: make([]api.Fill, fills), Strokes: make([]api.Stroke, strokes)}
}

// numbers are the fields of a record that are numbers, but its Kind.
func numbers(v *api.Record) []*int {
	return []*int{&v.X, &v.Y, &v.CX, &v.CY, &v.Left, &v.Right, &v.Line}
}

// writers are empty, at the end of a byte, in its midst, and not right.
func writers() []bits.Writer {
	l := []bits.Writer{
		{}, {S: "a"}, {S: "ab"}, {S: "\x00\x00"}, {S: "\xff"},
		{S: "", Free: 1}, {S: "", Free: -1}, {S: "", Free: 7}, {S: "", Free: 8},
		{S: "\xff", Free: 1}, {S: "\xff", Free: 7}, {S: "a\x81", Free: 3},
		{S: "a", Free: -1}, {S: "\x00", Free: 8}, {S: "\x00", Free: 9}, {S: "ab", Free: least}, {S: "ab", Free: most},
	}
	for free := range 8 {
		l = append(l, bits.Writer{S: "\x80", Free: free}, bits.Writer{S: "x\x00", Free: free})
	}
	return l
}

// sameAs: are they told alike in every number? It is asked of the texts, so that it hangs on nothing of the layer.
func sameAs(a any, b any) bool {
	return strings.ReplaceAll(fmt.Sprintf("%#v", a), "(nil)", "{}") == strings.ReplaceAll(fmt.Sprintf("%#v", b), "(nil)", "{}")
}

// short is what of a text a test tells.
func short(s string) string {
	return fmt.Sprintf("%.60x (%d bytes)", s, len(s))
}

func expectPut(t *testing.T, p beside, w bits.Writer, l []api.Record, want string) {
	t.Helper()
	if !RightRecords(p.fills, p.strokes, l, p.kind) {
		t.Errorf("RightRecords(%+v, %+v) = false", p, l)
	}
	got, e := PutRecords(w, p.fills, p.strokes, l, p.kind)
	if e != api.OK || got != (bits.Writer{S: want}) {
		t.Errorf("PutRecords(%#v, %+v, %+v) = %s, %d, error %d, want %s", w, p, l, short(got.S), got.Free, e, short(want))
	}
}

func expectNotPut(t *testing.T, p beside, w bits.Writer, l []api.Record) {
	t.Helper()
	if RightRecords(p.fills, p.strokes, l, p.kind) {
		t.Errorf("RightRecords(%+v, %+v)", p, l)
	}
	if got, e := PutRecords(w, p.fills, p.strokes, l, p.kind); e != api.ErrArg || got != (bits.Writer{}) {
		t.Errorf("PutRecords(%#v, %+v, %+v) = %s, %d, error %d", w, p, l, short(got.S), got.Free, e)
	}
}

func expectTaken(t *testing.T, p beside, r bits.Reader, l []api.Record, at int) {
	t.Helper()
	got, next, e := TakeRecords(r, p.fills, p.strokes, p.kind)
	if e != api.OK || !sameAs(got, l) || next != (bits.Reader{S: r.S, At: at}) {
		t.Errorf("TakeRecords(%s, %d, %+v) = %+v, at %d, error %d, want %+v, at %d", short(r.S), r.At, p, got, next.At, e, l, at)
	}
}

// expectNot holds TakeRecords to an error, with nothing beside it.
func expectNot(t *testing.T, p beside, r bits.Reader, want api.Errno) {
	t.Helper()
	got, next, e := TakeRecords(r, p.fills, p.strokes, p.kind)
	if e != want || len(got) != 0 || next != (bits.Reader{}) {
		t.Errorf("TakeRecords(%s, %d, %+v) = %+v, %d, error %d, want error %d alone", short(r.S), r.At, p, got, next.At, e, want)
	}
}

// expectBoth holds both ways to bytes that are the records, whole and ending at each place ahead of the end.
func expectBoth(t *testing.T, p beside, l []api.Record, s string) {
	t.Helper()
	expectPut(t, p, bits.Writer{}, l, s)
	expectPut(t, p, bits.Writer{S: "q\x80", Free: 7}, l, "q\x80"+s)
	expectTaken(t, p, bits.Reader{S: s}, l, 8*len(s))
	expectTaken(t, p, bits.Reader{S: "q" + s + "\xff", At: 3}, l, 8+8*len(s))
	for n := range min(len(s), 200) {
		expectNot(t, p, bits.Reader{S: s[:n]}, api.ErrShort)
	}
	expectNot(t, p, bits.Reader{S: s[:len(s)-1]}, api.ErrShort)
}

// expectAsTheWordsSay holds TakeRecords at r to the words, and what it takes to being right, written, and taken as the same; it tells the error.
func expectAsTheWordsSay(t *testing.T, p beside, r bits.Reader) api.Errno {
	t.Helper()
	l, at, e := p.wordsTake(r.S, r.At)
	if e != api.OK {
		expectNot(t, p, r, e)
		return e
	}
	expectTaken(t, p, r, l, at)
	s := p.wordsPut(l)
	expectPut(t, p, bits.Writer{S: "q"}, l, "q"+s)
	expectTaken(t, p, bits.Reader{S: "q" + s, At: 8}, l, 8+8*len(s))
	return api.OK
}

func expectShapePut(t *testing.T, w bits.Writer, s Shape, want string) {
	t.Helper()
	if !Right(s) {
		t.Errorf("Right(%+v) = false", s)
	}
	if got, e := Put(w, s); e != api.OK || got != (bits.Writer{S: want}) {
		t.Errorf("Put(%#v, %+v) = %s, %d, error %d, want %s", w, s, short(got.S), got.Free, e, short(want))
	}
}

func expectShapeNotPut(t *testing.T, w bits.Writer, s Shape) {
	t.Helper()
	if Right(s) {
		t.Errorf("Right(%+v)", s)
	}
	if got, e := Put(w, s); e != api.ErrArg || got != (bits.Writer{}) {
		t.Errorf("Put(%#v, %+v) = %s, %d, error %d", w, s, short(got.S), got.Free, e)
	}
}

func expectShapeTaken(t *testing.T, r bits.Reader, s Shape, at int) {
	t.Helper()
	got, next, e := Take(r)
	if e != api.OK || !sameAs(got, s) || next != (bits.Reader{S: r.S, At: at}) {
		t.Errorf("Take(%s, %d) = %+v, at %d, error %d, want %+v, at %d", short(r.S), r.At, got, next.At, e, s, at)
	}
}

// expectNoShape holds Take to an error, with nothing beside it.
func expectNoShape(t *testing.T, r bits.Reader, want api.Errno) {
	t.Helper()
	got, next, e := Take(r)
	if e != want || !sameAs(got, Shape{}) || next != (bits.Reader{}) {
		t.Errorf("Take(%s, %d) = %+v, %d, error %d, want error %d alone", short(r.S), r.At, got, next.At, e, want)
	}
}

// expectShapeAsTheWordsSay is likewise of Take.
func expectShapeAsTheWordsSay(t *testing.T, r bits.Reader) api.Errno {
	t.Helper()
	x, at, e := wordsTakeShape(r.S, r.At)
	if e != api.OK {
		expectNoShape(t, r, e)
		return e
	}
	expectShapeTaken(t, r, x, at)
	s := shapeBytes(x)
	expectShapePut(t, bits.Writer{S: "q"}, x, "q"+s)
	expectShapeTaken(t, bits.Reader{S: "q" + s, At: 8}, x, 8+8*len(s))
	return api.OK
}

// P9.1, P9.2: by hand, both ways, the chapter's examples first.
func TestByHand(t *testing.T) {
	expectBoth(t, beside{}, nil, "\x00\x00")
	expectBoth(t, beside{}, []api.Record{}, "\x00\x00")
	expectBoth(t, beside{}, []api.Record{lines(5, 0)}, "\x00\xc8\x50\x00")
	for _, c := range []struct {
		p beside
		l []api.Record
		d string
	}{
		// Lines that go level, upright, neither, and nowhere.
		{beside{}, []api.Record{lines(0, 5)}, "0000 0000 11 0010 0 1 0101 000000"},
		{beside{}, []api.Record{lines(5, -3)}, "0000 0000 11 0010 1 0101 1101 000000"},
		{beside{}, []api.Record{lines(0, 0)}, "0000 0000 11 0000 0 1 00 000000"},
		{beside{}, []api.Record{lines(1, 0)}, "0000 0000 11 0000 0 0 01 000000"},
		{beside{}, []api.Record{lines(-1, 0)}, "0000 0000 11 0000 0 0 11 000000"},
		{beside{}, []api.Record{lines(0, -2)}, "0000 0000 11 0000 0 1 10 000000"},
		{beside{}, []api.Record{lines(2, 0)}, "0000 0000 11 0001 0 0 010 000000"},
		{beside{}, []api.Record{lines(1, -1)}, "0000 0000 11 0000 1 01 11 000000"},
		{beside{}, []api.Record{lines(65535, -65536)}, "0000 0000 11 1111 1 01111111111111111 10000000000000000 000000"},
		{beside{}, []api.Record{lines(0, 65535)}, "0000 0000 11 1111 0 1 01111111111111111 000000"},
		{beside{}, []api.Record{lines(-65536, 0)}, "0000 0000 11 1111 0 0 10000000000000000 000000"},
		{beside{}, []api.Record{lines(0, 32767)}, "0000 0000 11 1110 0 1 0111111111111111 000000"},
		{beside{}, []api.Record{lines(-5, 0), lines(0, 1)}, "0000 0000 11 0010 0 0 1011 11 0000 0 1 01 000000"},
		// Curves.
		{beside{}, []api.Record{curves(0, 0, 0, 0)}, "0000 0000 10 0000 00 00 00 00 000000"},
		{beside{}, []api.Record{curves(1, -2, 3, -4)}, "0000 0000 10 0001 001 110 011 100 000000"},
		{beside{}, []api.Record{curves(8, 0, 0, 0)}, "0000 0000 10 0011 01000 00000 00000 00000 000000"},
		{beside{}, []api.Record{curves(0, 8, 0, 0)}, "0000 0000 10 0011 00000 01000 00000 00000 000000"},
		{beside{}, []api.Record{curves(0, 0, 8, 0)}, "0000 0000 10 0011 00000 00000 01000 00000 000000"},
		{beside{}, []api.Record{curves(0, 0, 0, 8)}, "0000 0000 10 0011 00000 00000 00000 01000 000000"},
		{beside{}, []api.Record{curves(-65536, 65535, 0, -1)}, "0000 0000 10 1111 10000000000000000 01111111111111111 00000000000000000 11111111111111111 000000"},
		// Moves of no width, and of the greatest one.
		{beside{}, []api.Record{moves(0, 0)}, "0000 0000 000001 00000 000000"},
		{beside{}, []api.Record{moves(-1, -1)}, "0000 0000 000001 00001 1 1 000000"},
		{beside{}, []api.Record{moves(1, -1)}, "0000 0000 000001 00010 01 11 000000"},
		{beside{}, []api.Record{moves(0, 4)}, "0000 0000 000001 00100 0000 0100 000000"},
		{beside{}, []api.Record{moves(1<<20, -1<<20)}, "0000 0000 000001 10110 0100000000000000000000 1100000000000000000000 000000"},
		{beside{}, []api.Record{moves(0, -1<<20)}, "0000 0000 000001 10101 000000000000000000000 100000000000000000000 000000"},
		// Sets: the bits that tell stand in the other order than the numbers.
		{beside{1, 0, Any}, []api.Record{sets(1, -1, -1)}, "0001 0000 00 0 0 1 0 1 000000"},
		{beside{1, 0, Any}, []api.Record{sets(-1, 1, -1)}, "0001 0000 00 0 1 0 0 1 000000"},
		{beside{0, 1, Any}, []api.Record{sets(-1, -1, 1)}, "0000 0001 00 1 0 0 0 1 000000"},
		{beside{0, 0, Any}, []api.Record{sets(0, -1, -1)}, "0000 0000 00 0 0 1 0 000000"},
		{beside{0, 0, Plain}, []api.Record{sets(0, 0, 0)}, "0000 0000 00 1 1 1 0 000000"},
		{beside{15, 15, Plain}, []api.Record{sets(1, 2, 4)}, "0100 0100 00 1 1 1 0 0001 0010 0100 000000"},
		{beside{3, 7, Any}, []api.Record{sets(3, -1, 7)}, "0010 0011 00 1 0 1 0 11 111 000000"},
		{beside{4, 8, Any}, []api.Record{sets(-1, 4, 8)}, "0011 0100 00 1 1 0 0 100 1000 000000"},
		{beside{2, 15, Any}, []api.Record{sets(2, 0, -1)}, "0010 0100 00 0 1 1 0 10 00 000000"},
		// New styles: what follows stands in their widths.
		{beside{0, 0, Any}, []api.Record{{Kind: api.Fresh}}, "0000 0000 010000 00  00000000 00000000 0000 0000 000000"},
		{beside{15, 15, Any}, []api.Record{freshes(0, 0), sets(0, 0, 0)}, "0100 0100 010000 00  00000000 00000000 0000 0000 00 1 1 1 0 000000"},
		{beside{15, 0, Any}, []api.Record{sets(5, -1, -1), {Kind: api.Fresh, Fills: []api.Fill{red}, Strokes: []api.Stroke{pen, thin}}, sets(1, 0, 2), lines(0, 1)},
			"0100 0000 00 0 0 1 0 0101 010000" +
				"00000001 00000000 11111111 00000000 00000000 11111111  00000010 00010100 00000000 00000000 11111111 00000000 11111111 00000001 00000000 00000000 00000000 00000000 00000000" +
				"0001 0010 00 1 1 1 0 1 0 10 11 0000 0 1 01 000000"},
	} {
		expectBoth(t, c.p, c.l, inBytes(c.d))
		if got := c.p.wordsPut(c.l); got != inBytes(c.d) {
			t.Errorf("the words write %+v as %x, want %x", c.l, got, inBytes(c.d))
		}
	}
}

// P9.1, P9.3: a shape by hand, both ways.
func TestShapeByHand(t *testing.T) {
	s := Shape{ID: 258, Bounds: api.Rect{Right: 1, Bottom: 1}, Fills: []api.Fill{red}, Records: []api.Record{sets(-1, 1, -1), lines(5, 0)}}
	want := "\x02\x01" + "\x10\x88" + "\x01\x00\xff\x00\x00\xff\x00" + inBytes("0001 0000 00 0 1 0 0 1 11 0010 0 0 0101 000000")
	expectShapePut(t, bits.Writer{}, s, want)
	expectShapeTaken(t, bits.Reader{S: want}, s, 8*len(want))
	expectShapePut(t, bits.Writer{}, Shape{}, "\x00\x00\x00\x00\x00\x00\x00")
	expectShapeTaken(t, bits.Reader{S: "\x00\x00\x00\x00\x00\x00\x00\x00"}, Shape{}, 56)
	expectShapePut(t, bits.Writer{}, Shape{ID: 65535, Strokes: []api.Stroke{thin}}, "\xff\xff\x00\x00\x01\x01\x00\x00\x00\x00\x00\x01\x00")
}

// P9.1: numbers that are no Kind are not right, alone and beside records that are.
func TestKindsThatAreNone(t *testing.T) {
	for _, kind := range []int{least, -1 << 32, -5, -4, -1, 0, 6, 7, 8, 9, 16, 255, 256, 257, 258, 1 << 16, 1<<32 + 1, 1<<32 + 4, most} {
		for _, v := range []api.Record{{}, move, set, fresh, line, curve} {
			v.Kind = kind
			expectNotPut(t, beside{1, 1, Any}, bits.Writer{S: "z"}, []api.Record{v})
			expectNotPut(t, beside{1, 1, Plain}, bits.Writer{}, []api.Record{move, v, line})
			expectNotPut(t, beside{1, 1, Bare}, bits.Writer{}, []api.Record{move, v})
		}
	}
	for _, v := range []api.Record{move, set, fresh, line, curve} {
		expectBoth(t, beside{1, 1, Any}, []api.Record{v}, beside{1, 1, Any}.wordsPut([]api.Record{v}))
	}
}

// P9.1: each number of a Move, a Line and a Curve at its bounds, and one beyond each.
func TestNumbersAtTheirBounds(t *testing.T) {
	p := beside{0, 0, Bare}
	for _, c := range []struct {
		v      api.Record
		fields []int
		from   int
		to     int
	}{
		{api.Record{Kind: 1}, []int{0, 1}, -1048576, 1048576},
		{api.Record{Kind: 4}, []int{0, 1}, -65536, 65535},
		{api.Record{Kind: 5}, []int{0, 1, 2, 3}, -65536, 65535},
	} {
		for _, i := range c.fields {
			for _, other := range []int{0, 1, -1, 3000} {
				v := c.v
				for _, j := range c.fields {
					*numbers(&v)[j] = other
				}
				for _, x := range []int{c.from, c.from + 1, -1, 0, 1, c.to - 1, c.to} {
					*numbers(&v)[i] = x
					expectBoth(t, p, []api.Record{v}, p.wordsPut([]api.Record{v}))
				}
				for _, x := range []int{c.from - 1, c.to + 1, 2 * c.from, 2 * c.to, least, most, least + 1, 1 << 32, -1 << 32, 1<<32 + 1} {
					*numbers(&v)[i] = x
					expectNotPut(t, p, bits.Writer{}, []api.Record{v})
				}
			}
		}
	}
}

// P9.1: Left and Right from -1 to the number of fills, Line from -1 to that of lines, not all three -1.
func TestSetsAtTheirBounds(t *testing.T) {
	for fills := range 16 {
		for strokes := range 16 {
			p := beside{fills, strokes, Plain}
			for _, left := range []int{-2, -1, 0, fills, fills + 1} {
				for _, right := range []int{-2, -1, 0, fills, fills + 1} {
					for _, line := range []int{-2, -1, 0, strokes, strokes + 1} {
						l := []api.Record{sets(left, right, line)}
						ok := left >= -1 && left <= fills && right >= -1 && right <= fills && line >= -1 && line <= strokes && (left > -1 || right > -1 || line > -1)
						if ok {
							expectPut(t, p, bits.Writer{}, l, p.wordsPut(l))
							expectTaken(t, p, bits.Reader{S: p.wordsPut(l)}, l, 8*len(p.wordsPut(l)))
						} else {
							expectNotPut(t, p, bits.Writer{}, l)
						}
					}
				}
			}
			expectNotPut(t, p, bits.Writer{}, []api.Record{sets(-1, -1, -1)})
			expectNotPut(t, p, bits.Writer{}, []api.Record{sets(most, 0, 0)})
			expectNotPut(t, p, bits.Writer{}, []api.Record{sets(0, least, 0)})
			expectNotPut(t, p, bits.Writer{}, []api.Record{sets(0, 0, 1<<32)})
		}
	}
}

// P9.1: whatever is changed in one field of a record, the layer says of it what the words say; so a field that should be 0 or none, and is not, is told in each Kind.
func TestRightOfAlteredRecords(t *testing.T) {
	values := []int{least, -1 << 32, -1048577, -1048576, -65537, -65536, -65535, -16, -3, -2, -1, 0, 1, 2, 3, 4, 5, 6, 7, 15, 16, 17, 255, 256, 32767, 65535, 65536, 1048575, 1048576, 1048577, 1 << 32, 1<<32 + 1, most}
	for _, p := range []beside{{1, 1, Any}, {2, 0, Any}, {0, 3, Plain}, {15, 15, Plain}, {15, 1, Bare}, {0, 0, Bare}} {
		for _, whole := range []api.Record{move, set, fresh, line, curve, lines(0, 0), moves(0, 0), curves(0, 0, 0, 0), {Kind: 3}, sets(0, 0, 0)} {
			var l []api.Record
			for _, x := range values {
				for i := range numbers(&whole) {
					v := whole
					*numbers(&v)[i] = x
					l = append(l, v)
				}
				v := whole
				v.Kind = x
				l = append(l, v)
			}
			for _, fills := range [][]api.Fill{nil, {}, {red}, {{Kind: 1}}, {red, ramp(), tile}, make([]api.Fill, 15), make([]api.Fill, 16)} {
				for _, strokes := range [][]api.Stroke{nil, {}, {pen}, {{Width: -1}}, {pen, thin}, make([]api.Stroke, 15), make([]api.Stroke, 16)} {
					v := whole
					v.Fills, v.Strokes = fills, strokes
					l = append(l, v)
				}
			}
			for _, v := range l {
				one := []api.Record{v}
				if p.wordsRight(one) {
					s := p.wordsPut(one)
					expectPut(t, p, bits.Writer{}, one, s)
					expectTaken(t, p, bits.Reader{S: s}, one, 8*len(s))
				} else {
					expectNotPut(t, p, bits.Writer{}, one)
				}
			}
		}
	}
}

// P9.1: by hand, each field for itself that a Kind has not.
func TestFieldsThatAKindHasNot(t *testing.T) {
	p := beside{3, 3, Any}
	for _, c := range []struct {
		v   api.Record
		not []int
	}{
		{move, []int{2, 3, 4, 5, 6}}, {set, []int{0, 1, 2, 3}}, {fresh, []int{0, 1, 2, 3, 4, 5, 6}}, {line, []int{2, 3, 4, 5, 6}}, {curve, []int{4, 5, 6}},
	} {
		expectPut(t, p, bits.Writer{}, []api.Record{c.v}, p.wordsPut([]api.Record{c.v}))
		for _, i := range c.not {
			for _, x := range []int{-1, 1, 2} {
				v := c.v
				*numbers(&v)[i] = x
				expectNotPut(t, p, bits.Writer{}, []api.Record{v})
			}
		}
		if c.v.Kind == api.Fresh {
			continue
		}
		v := c.v
		v.Fills = []api.Fill{red}
		expectNotPut(t, p, bits.Writer{}, []api.Record{v})
		v = c.v
		v.Strokes = []api.Stroke{pen}
		expectNotPut(t, p, bits.Writer{}, []api.Record{v})
		// Lists that are empty are none.
		v = c.v
		v.Fills, v.Strokes = []api.Fill{}, []api.Stroke{}
		expectPut(t, p, bits.Writer{}, []api.Record{v}, p.wordsPut([]api.Record{c.v}))
	}
}

// P9.1: a Fresh with lists that are not right is not right; nor is it with as many as there are in the other list.
func TestFreshWithListsThatAreNotRight(t *testing.T) {
	p := beside{0, 0, Any}
	bad := ramp()
	bad.Stops[0].Ratio = 201
	for _, v := range []api.Record{
		{Kind: 3, Fills: []api.Fill{{Kind: 1}}},
		{Kind: 3, Fills: []api.Fill{red, red, {Color: api.RGBA{A: 256}}}},
		{Kind: 3, Fills: []api.Fill{bad}},
		{Kind: 3, Fills: []api.Fill{{Kind: 64, ID: 65536}}},
		{Kind: 3, Strokes: []api.Stroke{{Width: 65536}}},
		{Kind: 3, Strokes: []api.Stroke{pen, {Color: api.RGBA{B: -1}}}},
		freshes(16, 0), freshes(0, 16), freshes(16, 16), freshes(256, 0), freshes(0, 257),
	} {
		expectNotPut(t, p, bits.Writer{}, []api.Record{v})
		expectNotPut(t, p, bits.Writer{S: "z"}, []api.Record{move, v, line})
	}
	for _, v := range []api.Record{freshes(15, 0), freshes(0, 15), freshes(15, 15), {Kind: 3, Fills: []api.Fill{ramp(), tile}}} {
		expectBoth(t, p, []api.Record{v}, p.wordsPut([]api.Record{v}))
	}
}

// P9.1, P9.2: behind a Fresh the styles are told by its numbers, be they more than before or fewer.
func TestStylesBehindAFresh(t *testing.T) {
	for _, fills := range []int{0, 1, 3, 4, 15} {
		for _, strokes := range []int{0, 1, 2, 15} {
			for _, before := range []int{0, 1, 15} {
				p := beside{before, before, Any}
				for _, v := range []api.Record{sets(fills, -1, -1), sets(-1, fills, -1), sets(-1, -1, strokes), sets(fills, fills, strokes)} {
					l := []api.Record{sets(before, before, before), freshes(fills, strokes), move, v}
					expectBoth(t, p, l, p.wordsPut(l))
				}
				for _, v := range []api.Record{sets(fills+1, -1, -1), sets(-1, fills+1, -1), sets(-1, -1, strokes+1), sets(0, fills+1, strokes)} {
					expectNotPut(t, p, bits.Writer{}, []api.Record{freshes(fills, strokes), v})
				}
				// The last Fresh is the one that tells.
				l := []api.Record{freshes(15, 15), sets(15, 14, 13), freshes(2, 1), freshes(fills, strokes), sets(fills, 0, strokes)}
				expectBoth(t, p, l, p.wordsPut(l))
			}
		}
	}
	expectNotPut(t, beside{1, 1, Any}, bits.Writer{}, []api.Record{sets(2, -1, -1), freshes(2, 2)})
}

// P9.1: plain records have no Fresh, bare ones no Set either, wherever these stand.
func TestKindsOfRecords(t *testing.T) {
	for n := range 4 {
		for i := range n + 1 {
			rest := slices.Repeat([]api.Record{move, line, curve}, 3)[:n]
			with := func(v api.Record) []api.Record { return slices.Insert(slices.Clone(rest), i, v) }
			for _, c := range []struct {
				l    []api.Record
				most int
			}{{rest, Bare}, {with(line), Bare}, {with(set), Plain}, {with(fresh), Any}, {append(with(set), fresh), Any}, {append(with(fresh), set), Any}} {
				for kind := Any; kind <= Bare; kind++ {
					p := beside{1, 1, kind}
					if kind <= c.most {
						expectPut(t, p, bits.Writer{}, c.l, p.wordsPut(c.l))
					} else {
						expectNotPut(t, p, bits.Writer{}, c.l)
					}
				}
			}
		}
	}
	if Any != 0 || Plain != 1 || Bare != 2 {
		t.Errorf("the kinds are %d, %d, %d", Any, Plain, Bare)
	}
}

// P9.1, P9.2: fills and strokes from 0 to 15, and a kind that is one, or all is refused: even no records, and ahead of all errors of the bits.
func TestPlacesThatAreNone(t *testing.T) {
	for _, fills := range []int{least, -16, -1, 0, 1, 14, 15, 16, 17, 255, 256, 1 << 32, most} {
		for _, strokes := range []int{least, -1, 0, 1, 15, 16, 256, most} {
			for _, kind := range []int{least, -1, 0, 1, 2, 3, 4, 256, 1 << 32, most} {
				p := beside{fills, strokes, kind}
				if p.isRight() {
					expectBoth(t, p, nil, p.wordsPut(nil))
					expectBoth(t, p, []api.Record{line}, p.wordsPut([]api.Record{line}))
					continue
				}
				for _, l := range [][]api.Record{nil, {line}, {move, line}, {curve}} {
					expectNotPut(t, p, bits.Writer{S: "z"}, l)
				}
				for _, s := range []string{"", "\x00", "\x00\x00", "\x00\x40\x00", "\xff\xff\xff\xff"} {
					expectNot(t, p, bits.Reader{S: s}, api.ErrArg)
					expectNot(t, p, bits.Reader{S: s, At: -1}, api.ErrArg)
				}
			}
		}
	}
}

// P9.1, P9.2: 0 and 512 records are right; more are refused both ways.
func TestManyRecords(t *testing.T) {
	d := dice(512)
	for _, kind := range []int{Any, Plain, Bare} {
		p := beside{3, 2, kind}
		for _, n := range []int{0, 1, 511, 512} {
			l := d.records(p, n)
			s := p.wordsPut(l)
			expectPut(t, p, bits.Writer{}, l, s)
			expectTaken(t, p, bits.Reader{S: s}, l, 8*len(s))
		}
		for _, n := range []int{513, 514, 1024, 1 << 16, 1<<16 + 1} {
			l := slices.Repeat([]api.Record{line, move}, n)[:n]
			expectNotPut(t, p, bits.Writer{}, l)
			expectNot(t, p, bits.Reader{S: p.wordsPut(l)}, api.ErrLimit)
		}
	}
	full := slices.Repeat([]api.Record{fresh}, 512)
	s := beside{}.wordsPut(full)
	expectPut(t, beside{}, bits.Writer{}, full, s)
	expectTaken(t, beside{}, bits.Reader{S: s}, full, 8*len(s))
}

// P9.1: records in which only one is not right, wherever it stands.
func TestRecordsWithOneThatIsNotRight(t *testing.T) {
	d := dice(4)
	bad := []api.Record{{}, {Kind: 6}, moves(1<<20+1, 0), sets(-1, -1, -1), sets(16, 0, 0), lines(0, 65536), curves(0, 0, 0, -65537), {Kind: 3, Fills: []api.Fill{{Kind: 1}}}, {Kind: 4, CX: 1}}
	for n := 1; n <= 20; n++ {
		p := beside{n % 16, n % 3, Any}
		l := d.records(p, n)
		expectPut(t, p, bits.Writer{}, l, p.wordsPut(l))
		for i := range n {
			for _, v := range bad {
				worse := slices.Clone(l)
				worse[i] = v
				expectNotPut(t, p, bits.Writer{}, worse)
				expectShapeNotPut(t, bits.Writer{}, Shape{Fills: make([]api.Fill, p.fills), Strokes: make([]api.Stroke, p.strokes), Records: worse})
			}
		}
	}
	p := beside{0, 0, Bare}
	l := slices.Repeat([]api.Record{line}, 512)
	for _, i := range []int{0, 1, 255, 256, 510, 511} {
		worse := slices.Clone(l)
		worse[i].Left = -1
		expectNotPut(t, p, bits.Writer{}, worse)
	}
}

// P9.1: each part of a shape at its bounds, and beyond them.
func TestRightShapes(t *testing.T) {
	whole := Shape{ID: 7, Bounds: api.Rect{Left: -3, Right: 200, Top: 5, Bottom: 100}, Fills: []api.Fill{red, ramp()}, Strokes: []api.Stroke{pen}, Records: []api.Record{move, set, line, curve}}
	expect := func(s Shape, want bool) {
		t.Helper()
		if wordsShape(s) != want {
			t.Errorf("the words say %v of %+v", !want, s)
		}
		if want {
			b := shapeBytes(s)
			expectShapePut(t, bits.Writer{}, s, b)
			expectShapeTaken(t, bits.Reader{S: b}, s, 8*len(b))
		} else {
			expectShapeNotPut(t, bits.Writer{S: "z"}, s)
		}
	}
	expect(whole, true)
	for v, want := range map[int]bool{-1: false, 0: true, 1: true, 255: true, 256: true, 32768: true, 65535: true, 65536: false, 1 << 32: false, least: false, most: false, -65536: false} {
		s := whole
		s.ID = v
		expect(s, want)
	}
	for _, c := range []struct {
		r    api.Rect
		want bool
	}{
		{api.Rect{}, true},
		{api.Rect{Left: -1 << 20, Right: 1 << 20, Top: -1 << 20, Bottom: 1 << 20}, true},
		{api.Rect{Left: 1 << 20, Right: 1 << 20, Top: 1 << 20, Bottom: 1 << 20}, true},
		{api.Rect{Left: 1}, false}, {api.Rect{Top: 1}, false}, {api.Rect{Right: -1}, false}, {api.Rect{Bottom: -1}, false},
		{api.Rect{Left: -1<<20 - 1}, false}, {api.Rect{Right: 1<<20 + 1}, false}, {api.Rect{Top: -1<<20 - 1}, false}, {api.Rect{Bottom: 1<<20 + 1}, false},
		{api.Rect{Left: least, Right: most}, false},
	} {
		s := whole
		s.Bounds = c.r
		expect(s, c.want)
	}
	for n, want := range map[int]bool{0: false, 1: true, 2: true, 15: true, 16: false, 17: false, 256: false} {
		s := whole
		s.Fills = make([]api.Fill, n)
		expect(s, want)
		s = whole
		s.Strokes = make([]api.Stroke, n)
		expect(s, want || n == 0)
	}
	s := whole
	s.Fills = []api.Fill{red, {Kind: 17}}
	expect(s, false)
	s = whole
	s.Strokes = []api.Stroke{{Width: -1}}
	expect(s, false)
	for _, l := range [][]api.Record{nil, {}, {fresh, sets(2, 2, 1)}, {sets(2, -1, -1)}, {sets(-1, 2, 1)}} {
		s = whole
		s.Records = l
		expect(s, true)
	}
	for _, l := range [][]api.Record{{{}}, {sets(3, -1, -1)}, {sets(-1, 3, -1)}, {sets(-1, -1, 2)}, {fresh, sets(-1, -1, 2)}, slices.Repeat([]api.Record{move}, 513)} {
		s = whole
		s.Records = l
		expect(s, false)
	}
	s = whole
	s.Records = slices.Repeat([]api.Record{move}, 512)
	expect(s, true)
}

// P9.1: every writer gets the whole of it from a whole byte on; of what is not right none gets anything.
func TestPutBehindEveryWriter(t *testing.T) {
	d := dice(77)
	for _, w := range writers() {
		for i := range 12 {
			p := d.beside()
			l := d.records(p, i)
			expectPut(t, p, w, l, w.S+p.wordsPut(l))
			s := d.shape(i)
			expectShapePut(t, w, s, w.S+shapeBytes(s))
		}
		expectPut(t, beside{}, w, nil, w.S+"\x00\x00")
		expectNotPut(t, beside{}, w, []api.Record{{}})
		expectNotPut(t, beside{16, 0, Any}, w, nil)
		expectShapeNotPut(t, w, Shape{ID: -1})
		expectShapeNotPut(t, w, Shape{Records: []api.Record{sets(1, 0, 0)}})
	}
}

// P9.1, P9.4: what is right is written as the words say, and taken back, whole or not at all.
func TestPutAsTheWordsSay(t *testing.T) {
	d := dice(0x9E3779B97F4A7C15)
	all := writers()
	for i := range 1500 {
		p := d.beside()
		l := d.records(p, []int{1, 2, 6, 30}[i%4])
		w := all[i%len(all)]
		s := w.S + p.wordsPut(l)
		expectPut(t, p, w, l, s)
		expectTaken(t, p, bits.Reader{S: s + "behind", At: 8 * len(w.S)}, l, 8*len(s))
		if i%10 == 0 {
			expectBoth(t, p, l, p.wordsPut(l))
		}
	}
	for i := range 300 {
		x := d.shape([]int{0, 1, 6, 40}[i%4])
		w := all[i%len(all)]
		s := w.S + shapeBytes(x)
		expectShapePut(t, w, x, s)
		expectShapeTaken(t, bits.Reader{S: s + "behind", At: 8 * len(w.S)}, x, 8*len(s))
	}
}

// P9.1: records that differ in one field, in a list of a Fresh or in how many there are, are not the same; whether they are right is not asked.
func TestSameRecords(t *testing.T) {
	d := dice(8)
	base := []api.Record{move, set, fresh, line, curve, {}, {Kind: 3, Fills: []api.Fill{ramp()}, Strokes: []api.Stroke{pen, thin}}, {Kind: least, X: most, Left: -5, Fills: []api.Fill{{Kind: 9}}}}
	base = append(base, d.records(beside{2, 2, Any}, 12)...)
	same := func(a, b []api.Record, want bool) {
		t.Helper()
		if SameRecords(a, b) != want || SameRecords(b, a) != want {
			t.Errorf("SameRecords(%+v, %+v) = %v", a, b, !want)
		}
	}
	same(base, slices.Clone(base), true)
	same(nil, []api.Record{}, true)
	same(nil, []api.Record{{}}, false)
	for i, v := range base {
		same(base, slices.Delete(slices.Clone(base), i, i+1), false)
		same(base, base[:i], false)
		same(base, slices.Insert(slices.Clone(base), i, v), false)
		with := func(v api.Record) []api.Record {
			l := slices.Clone(base)
			l[i] = v
			return l
		}
		for _, x := range altered(v) {
			same(base, with(x), sameAs(v, x))
			same([]api.Record{v}, []api.Record{x}, sameAs(v, x))
		}
		empty := v
		if len(v.Fills) == 0 {
			empty.Fills = []api.Fill{}
		}
		if len(v.Strokes) == 0 {
			empty.Strokes = []api.Stroke{}
		}
		same(base, with(empty), true)
	}
	same([]api.Record{move, line}, []api.Record{line, move}, false)
}

// altered are records that have one field, or one number in a list, set otherwise than v has it (or as it is, by chance).
func altered(v api.Record) []api.Record {
	var l []api.Record
	for _, x := range []int{least, -1, 0, 1, 3, 4, 100, most} {
		for i := range numbers(&v) {
			w := v
			*numbers(&w)[i] = x
			l = append(l, w)
		}
		w := v
		w.Kind = x
		l = append(l, w)
	}
	for i := range v.Fills {
		for _, change := range []func(f *api.Fill){
			func(f *api.Fill) { f.Kind++ },
			func(f *api.Fill) { f.Color.G++ },
			func(f *api.Fill) { f.Matrix.C++ },
			func(f *api.Fill) { f.Spread++ },
			func(f *api.Fill) { f.ID++ },
			func(f *api.Fill) { f.Stops = append(slices.Clone(f.Stops), api.Stop{}) },
			func(f *api.Fill) { f.Stops = append([]api.Stop{{Ratio: -1}}, f.Stops[min(1, len(f.Stops)):]...) },
		} {
			w := v
			w.Fills = slices.Clone(v.Fills)
			change(&w.Fills[i])
			l = append(l, w)
		}
		w := v
		w.Fills = v.Fills[:i]
		l = append(l, w)
	}
	for i := range v.Strokes {
		for _, s := range []api.Stroke{{Width: v.Strokes[i].Width + 1, Color: v.Strokes[i].Color}, {Width: v.Strokes[i].Width, Color: api.RGBA{A: -9}}} {
			w := v
			w.Strokes = slices.Clone(v.Strokes)
			w.Strokes[i] = s
			l = append(l, w)
		}
		w := v
		w.Strokes = v.Strokes[i+1:]
		l = append(l, w)
	}
	more, moreLines := v, v
	more.Fills = append(slices.Clone(v.Fills), api.Fill{})
	moreLines.Strokes = append(slices.Clone(v.Strokes), api.Stroke{})
	return append(l, more, moreLines)
}
