package morph_test

import (
	"fmt"
	"slices"
	"strings"
	"testing"

	"celluloid/api"
	"celluloid/bits"
	"celluloid/morph"
)

// dice are numbers that are always the same ones.
type dice uint64

func (d *dice) roll(count int) int {
	x := uint64(*d)
	x ^= x << 13
	x ^= x >> 7
	x ^= x << 17
	*d = dice(x)
	return int(x>>11) % count
}

// upTo is a number from 0 to highest, often one of these.
func (d *dice) upTo(highest int) int {
	switch d.roll(6) {
	case 0:
		return 0
	case 1:
		return highest
	}
	return d.roll(highest + 1)
}

// about is a number from -highest to highest, of any size.
func (d *dice) about(highest int) int {
	return (d.roll(2)*2 - 1) * min(d.upTo(highest), 1<<d.roll(24))
}

// way is a number that a Line may have.
func (d *dice) way() int {
	return min(d.about(65536), 65535)
}

func (d *dice) color() api.RGBA {
	return api.RGBA{R: d.upTo(255), G: d.upTo(255), B: d.upTo(255), A: d.upTo(255)}
}

func (d *dice) matrix() api.Matrix {
	m := api.Matrix{A: 65536, D: 65536}
	if d.roll(2) > 0 {
		m.A, m.D = d.about(1<<22), d.about(1<<22)
	}
	if d.roll(2) > 0 {
		m.B, m.C = d.about(1<<22), d.about(1<<22)
	}
	if d.roll(2) > 0 {
		m.X, m.Y = d.about(1<<20), d.about(1<<20)
	}
	return m
}

func (d *dice) rect() api.Rect {
	x, y := []int{d.about(1 << 20), d.about(1 << 20)}, []int{d.about(1 << 20), d.about(1 << 20)}
	return api.Rect{Left: slices.Min(x), Right: slices.Max(x), Top: slices.Min(y), Bottom: slices.Max(y)}
}

func (d *dice) stops(count int) (l []api.Stop) {
	for range count {
		l = append(l, api.Stop{Ratio: d.upTo(255), Color: d.color()})
	}
	slices.SortStableFunc(l, func(a, b api.Stop) int { return a.Ratio - b.Ratio })
	return l
}

// fills are two that may become each other.
func (d *dice) fills() (a api.Fill, b api.Fill) {
	a.Kind = []int{0, 0, 16, 18, 64, 65}[d.roll(6)]
	switch a.Kind {
	case 0:
		a.Color = d.color()
		b = a
		b.Color = d.color()
		return a, b
	case 16, 18:
		a.Spread = d.roll(3)
		a.Stops = d.stops(1 + d.roll(8))
	default:
		a.ID = d.upTo(65535)
	}
	b = a
	a.Matrix, b.Matrix = d.matrix(), d.matrix()
	if len(a.Stops) > 0 {
		b.Stops = d.stops(len(a.Stops))
	}
	return a, b
}

// pen is a record other than a Set.
func (d *dice) pen(kind int) api.Record {
	v := api.Record{Kind: kind}
	switch kind {
	case 1:
		v.X, v.Y = d.about(1<<20), d.about(1<<20)
	case 4:
		v.X, v.Y = d.way(), d.way()
	default:
		v.X, v.Y, v.CX, v.CY = d.way(), d.way(), d.way(), d.way()
	}
	return v
}

// set is a right one.
func (d *dice) set(fills int, strokes int) api.Record {
	v := api.Record{Kind: 2, Left: d.upTo(fills+1) - 1, Right: d.upTo(fills+1) - 1, Line: d.upTo(strokes+1) - 1}
	if v.Left+v.Right+v.Line == -3 {
		v.Right = 0
	}
	return v
}

// morph is a right one, that goes together.
func (d *dice) morph(styles int, count int) morph.Morph {
	m := morph.Morph{ID: d.upTo(65535), From: d.rect(), To: d.rect()}
	for range d.roll(styles + 1) {
		a, b := d.fills()
		m.Fills, m.ToFills = append(m.Fills, a), append(m.ToFills, b)
	}
	for range d.roll(styles + 1) {
		m.Strokes = append(m.Strokes, api.Stroke{Width: d.upTo(65535), Color: d.color()})
		m.ToStrokes = append(m.ToStrokes, api.Stroke{Width: d.upTo(65535), Color: d.color()})
	}
	for range count {
		kind := []int{1, 2, 4, 5}[d.roll(4)]
		if kind == 2 {
			m.Records = append(m.Records, d.set(len(m.Fills), len(m.Strokes)))
			continue
		}
		other := kind
		if kind > 3 {
			other = 4 + d.roll(2)
		}
		m.Records, m.Target = append(m.Records, d.pen(kind)), append(m.Target, d.pen(other))
	}
	return m
}

var (
	red  = api.RGBA{R: 255, A: 255}
	blue = api.RGBA{B: 255, A: 255}
	same = api.Matrix{A: 65536, D: 65536}
	// moved has the bytes 4, 128: no A to D, the width 2, and 1, 0.
	moved = api.Matrix{A: 65536, D: 65536, X: 1}
)

func moves(x int, y int) api.Record { return api.Record{Kind: 1, X: x, Y: y} }

func sets(left int, right int, line int) api.Record {
	return api.Record{Kind: 2, Left: left, Right: right, Line: line}
}

func lines(x int, y int) api.Record { return api.Record{Kind: 4, X: x, Y: y} }

func curves(cx int, cy int, x int, y int) api.Record {
	return api.Record{Kind: 5, CX: cx, CY: cy, X: x, Y: y}
}

// whole is a morph with a pair of each kind of fill, with lines and with each kind of record, made anew each time.
func whole() morph.Morph {
	return morph.Morph{
		ID:   3,
		From: api.Rect{Right: 100, Bottom: 100},
		To:   api.Rect{Left: -7, Right: 200, Top: 5, Bottom: 50},
		Fills: []api.Fill{
			{Color: red},
			{Kind: 16, Matrix: same, Spread: 1, Stops: []api.Stop{{Ratio: 9, Color: red}, {Ratio: 10, Color: blue}}},
			{Kind: 18, Matrix: moved, Spread: 2, Stops: []api.Stop{{Ratio: 255}}},
			{Kind: 64, Matrix: same, ID: 513},
			{Kind: 65, Matrix: same, ID: 65535},
		},
		ToFills: []api.Fill{
			{Color: blue},
			{Kind: 16, Matrix: moved, Spread: 1, Stops: []api.Stop{{Ratio: 0}, {Ratio: 255, Color: red}}},
			{Kind: 18, Matrix: same, Spread: 2, Stops: []api.Stop{{Ratio: 1, Color: red}}},
			{Kind: 64, Matrix: moved, ID: 513},
			{Kind: 65, Matrix: api.Matrix{}, ID: 65535},
		},
		Strokes:   []api.Stroke{{Width: 20, Color: red}, {Width: 65535}},
		ToStrokes: []api.Stroke{{Width: 40, Color: blue}, {Width: 0}},
		Records:   []api.Record{moves(5, -9), sets(-1, 5, 2), lines(100, 7), sets(0, -1, -1), curves(1, 2, 3, 4), lines(-7, 3), curves(-1, 0, 5, 8)},
		Target:    []api.Record{moves(15, 20), lines(-100, 0), curves(-5, 8, 0, 1), curves(2, 2, 2, 2), lines(0, -9)},
	}
}

// writers are empty, at the end of a byte, in its midst, and not right.
func writers() []bits.Writer {
	l := []bits.Writer{
		{}, {S: "a"}, {S: "ab"}, {S: "\x00\x00"}, {S: "\xff"},
		{S: "", Free: 1}, {S: "", Free: -1}, {S: "", Free: 7}, {S: "", Free: 8},
		{S: "\xff", Free: 1}, {S: "\xff", Free: 7}, {S: "a\x81", Free: 3},
		{S: "a", Free: -1}, {S: "\x00", Free: 8}, {S: "\x00", Free: 9}, {S: "ab", Free: least}, {S: "ab", Free: most},
	}
	for free := range 8 {
		l = append(l, bits.Writer{S: "\x80", Free: free}, bits.Writer{S: "x\x00", Free: free})
	}
	return l
}

// text tells all of a thing; a list that is nil and one that is empty are told alike.
func text(v any) string {
	return strings.ReplaceAll(fmt.Sprintf("%#v", v), "(nil)", "{}")
}

func sameAs(a any, b any) bool {
	return text(a) == text(b)
}

// short is what of bytes a test tells.
func short(s string) string {
	return fmt.Sprintf("%.60x (%d bytes)", s, len(s))
}

// expectPut holds Right and Put to a morph that is right.
func expectPut(t *testing.T, w bits.Writer, m morph.Morph, want string) {
	t.Helper()
	was := text(m)
	if !morph.Right(m) {
		t.Errorf("Right(%.300s) = false", was)
	}
	if got, e := morph.Put(w, m); e != api.OK || got != (bits.Writer{S: want}) {
		t.Errorf("Put(%#v, %.300s) = %s, %d, error %d, want %s", w, was, short(got.S), got.Free, e, short(want))
	}
	if text(m) != was {
		t.Errorf("Right or Put have changed %.300s", was)
	}
}

// expectNotPut holds Right, Put and At to a morph that is not right.
func expectNotPut(t *testing.T, m morph.Morph) {
	t.Helper()
	if wordsRight(m) {
		t.Errorf("the words take %.300s as right", text(m))
	}
	if morph.Right(m) {
		t.Errorf("Right(%.300s)", text(m))
	}
	for _, w := range []bits.Writer{{}, {S: "q\x80", Free: 7}} {
		if got, e := morph.Put(w, m); e != api.ErrArg || got != (bits.Writer{}) {
			t.Errorf("Put(%#v, %.300s) = %s, %d, error %d", w, text(m), short(got.S), got.Free, e)
		}
	}
	expectNotAt(t, m, 0, api.ErrArg)
	expectNotAt(t, m, 65535, api.ErrArg)
	expectNotAt(t, m, 65536, api.ErrArg)
}

func expectTaken(t *testing.T, r bits.Reader, m morph.Morph, at int) {
	t.Helper()
	got, next, e := morph.Take(r)
	if e != api.OK || !sameAs(got, m) || next != (bits.Reader{S: r.S, At: at}) {
		t.Errorf("Take(%s, %d) = %+v, at %d, error %d, want %+v, at %d", short(r.S), r.At, got, next.At, e, m, at)
	}
}

// expectNot holds Take to an error, with nothing beside it.
func expectNot(t *testing.T, r bits.Reader, want api.Errno) {
	t.Helper()
	got, next, e := morph.Take(r)
	if e != want || !sameAs(got, morph.Morph{}) || next != (bits.Reader{}) {
		t.Errorf("Take(%s, %d) = %+v, %d, error %d, want error %d alone", short(r.S), r.At, got, next.At, e, want)
	}
}

// expectBoth holds Put and Take to a right morph's bytes, whole and ending at each place ahead of the end.
func expectBoth(t *testing.T, m morph.Morph, s string) {
	t.Helper()
	expectPut(t, bits.Writer{}, m, s)
	expectPut(t, bits.Writer{S: "q\x80", Free: 7}, m, "q\x80"+s)
	expectTaken(t, bits.Reader{S: s}, m, 8*len(s))
	expectTaken(t, bits.Reader{S: "q" + s + "\xff", At: 3}, m, 8+8*len(s))
	for n := range min(len(s), 300) {
		expectNot(t, bits.Reader{S: s[:n]}, api.ErrShort)
	}
	expectNot(t, bits.Reader{S: s[:len(s)-1]}, api.ErrShort)
}

// P10.1, P10.2: by hand, both ways.
func TestByHand(t *testing.T) {
	// No styles and no records: the four bytes count two numbers of styles, and the records' widths and end.
	expectBoth(t, morph.Morph{}, "\x00\x00\x00\x00\x04\x00\x00\x00\x00\x00\x00\x00\x00\x00")
	// Target's widths are those of no styles, whatever the morph has. Of the records 0001 0001, 00 0 1 0 0 1, 11 0010 0 0 0101, 000000; of Target 0000 0000, 11 0010 0 0 0110, 000000.
	expectBoth(t, morph.Morph{
		ID: 258, To: api.Rect{Right: 1, Bottom: 1},
		Fills: []api.Fill{{Color: red}}, ToFills: []api.Fill{{Color: blue}},
		Strokes: []api.Stroke{{Width: 20, Color: red}}, ToStrokes: []api.Stroke{{Width: 0x1234, Color: blue}},
		Records: []api.Record{sets(-1, 1, -1), lines(5, 0)}, Target: []api.Record{lines(6, 0)},
	}, "\x02\x01"+"\x00"+"\x10\x88"+"\x1c\x00\x00\x00"+
		"\x01"+"\x00"+"\xff\x00\x00\xff"+"\x00\x00\xff\xff"+
		"\x01"+"\x14\x00"+"\x34\x12"+"\xff\x00\x00\xff"+"\x00\x00\xff\xff"+
		"\x11\x13\x90\xa0\x00"+
		"\x00\xc8\x60\x00")
	// Gradients: both matrices, the byte of Spread and stops, and stop by stop one side's and the other's.
	for _, kind := range []int{16, 18} {
		expectBoth(t, morph.Morph{
			From:    api.Rect{Right: 1, Bottom: 1},
			Fills:   []api.Fill{{Kind: kind, Matrix: same, Spread: 2, Stops: []api.Stop{{Ratio: 1, Color: red}, {Ratio: 2, Color: api.RGBA{R: 1, G: 2, B: 3, A: 4}}}}},
			ToFills: []api.Fill{{Kind: kind, Matrix: moved, Spread: 2, Stops: []api.Stop{{Ratio: 3, Color: blue}, {Ratio: 255, Color: api.RGBA{R: 5, G: 6, B: 7, A: 8}}}}},
		}, "\x00\x00"+"\x10\x88"+"\x00"+"\x1d\x00\x00\x00"+
			"\x01"+string(rune(kind))+"\x00"+"\x04\x80"+"\x82"+
			"\x01\xff\x00\x00\xff"+"\x03\x00\x00\xff\xff"+
			"\x02\x01\x02\x03\x04"+"\xff\x05\x06\x07\x08"+
			"\x00"+"\x10\x00"+"\x00\x00")
	}
	// Pictures: ID ahead of both matrices.
	for _, kind := range []int{64, 65} {
		expectBoth(t, morph.Morph{
			ID:      65535,
			Fills:   []api.Fill{{Kind: kind, Matrix: moved, ID: 0x0201}},
			ToFills: []api.Fill{{Kind: kind, Matrix: same, ID: 0x0201}},
		}, "\xff\xff"+"\x00"+"\x00"+"\x0a\x00\x00\x00"+
			"\x01"+string(rune(kind))+"\x01\x02"+"\x04\x80"+"\x00"+
			"\x00"+"\x10\x00"+"\x00\x00")
	}
}

// P10.1, P10.2: the words' bytes are the hand's, and Put's and Take's are the words'.
func TestAsTheWordsSay(t *testing.T) {
	m := whole()
	expectBoth(t, m, wordsPut(m).bytes())
	d := dice(1)
	for i := range 300 {
		m := d.morph(1+i%5, i%9)
		expectBoth(t, m, wordsPut(m).bytes())
	}
	for i := range 20 {
		m := d.morph(15, 20*i)
		expectBoth(t, m, wordsPut(m).bytes())
	}
}

// P10.1: ID from 0 to 2^16 - 1.
func TestID(t *testing.T) {
	for _, id := range []int{0, 1, 255, 256, 257, 32768, 65534, 65535} {
		m := whole()
		m.ID = id
		expectBoth(t, m, wordsPut(m).bytes())
	}
	for _, id := range []int{-1, -2, -65535, -65536, 65536, 65537, 1 << 32, -1 << 32, 1<<32 + 3, least, most} {
		m := whole()
		m.ID = id
		expectNotPut(t, m)
		expectNotPut(t, morph.Morph{ID: id})
	}
}

// P10.1: From and To are right, each for itself.
func TestRectangles(t *testing.T) {
	far := api.Rect{Left: -1 << 20, Right: 1 << 20, Top: -1 << 20, Bottom: 1 << 20}
	for _, r := range []api.Rect{{}, {Left: 5, Right: 5, Top: -3, Bottom: -3}, far} {
		m := whole()
		m.From = r
		expectBoth(t, m, wordsPut(m).bytes())
		m = whole()
		m.To = r
		expectBoth(t, m, wordsPut(m).bytes())
	}
	for _, r := range []api.Rect{{Left: 1}, {Top: 1}, {Right: -1}, {Bottom: -1}, {Left: -1<<20 - 1}, {Top: -1<<20 - 1}, {Right: 1<<20 + 1}, {Bottom: 1<<20 + 1}, {Left: least, Right: most}} {
		m := whole()
		m.From = r
		expectNotPut(t, m)
		m = whole()
		m.To = r
		expectNotPut(t, m)
	}
}

// P10.1: the lists of both sides are of one length.
func TestListsOfUnlikeLengths(t *testing.T) {
	for n := range 18 {
		for k := range 18 {
			m := morph.Morph{ID: 1, Fills: make([]api.Fill, n), ToFills: make([]api.Fill, k)}
			l := morph.Morph{ID: 1, Strokes: make([]api.Stroke, n), ToStrokes: make([]api.Stroke, k)}
			if n == k && n <= 15 {
				expectPut(t, bits.Writer{}, m, wordsPut(m).bytes())
				expectPut(t, bits.Writer{}, l, wordsPut(l).bytes())
				continue
			}
			expectNotPut(t, m)
			expectNotPut(t, l)
		}
	}
	for _, cut := range []func(*morph.Morph){
		func(m *morph.Morph) { m.ToFills = nil },
		func(m *morph.Morph) { m.ToFills = m.ToFills[:4] },
		func(m *morph.Morph) { m.ToFills = append(m.ToFills, api.Fill{}) },
		func(m *morph.Morph) { m.Fills = append(m.Fills, api.Fill{}) },
		func(m *morph.Morph) { m.ToStrokes = nil },
		func(m *morph.Morph) { m.ToStrokes = m.ToStrokes[:1] },
		func(m *morph.Morph) { m.ToStrokes = append(m.ToStrokes, api.Stroke{}) },
		func(m *morph.Morph) { m.Strokes = append(m.Strokes, api.Stroke{}) },
	} {
		m := whole()
		cut(&m)
		expectNotPut(t, m)
	}
}

// P10.1: each pair of fills is of one Kind, Spread, ID and number of Stops; what else they have may differ.
func TestPairsThatDiffer(t *testing.T) {
	stops := []api.Stop{{Ratio: 1}, {Ratio: 2}}
	gradient := api.Fill{Kind: 16, Matrix: same, Spread: 1, Stops: stops}
	picture := api.Fill{Kind: 64, Matrix: same, ID: 7}
	for _, c := range []struct {
		from   api.Fill
		change func(*api.Fill)
	}{
		{gradient, func(f *api.Fill) { f.Kind = 18 }},
		{gradient, func(f *api.Fill) { f.Spread = 0 }},
		{gradient, func(f *api.Fill) { f.Spread = 2 }},
		{gradient, func(f *api.Fill) { f.Stops = stops[:1] }},
		{gradient, func(f *api.Fill) { f.Stops = []api.Stop{{}, {}, {}} }},
		{gradient, func(f *api.Fill) { *f = picture }},
		{gradient, func(f *api.Fill) { *f = api.Fill{} }},
		{picture, func(f *api.Fill) { f.Kind = 65 }},
		{picture, func(f *api.Fill) { f.ID = 8 }},
		{picture, func(f *api.Fill) { f.ID = 7 + 256 }},
		{picture, func(f *api.Fill) { *f = api.Fill{} }},
	} {
		other := c.from
		c.change(&other)
		for _, pair := range [][2]api.Fill{{c.from, other}, {other, c.from}} {
			expectPut(t, bits.Writer{}, morph.Morph{Fills: pair[:1], ToFills: pair[:1]}, wordsPut(morph.Morph{Fills: pair[:1], ToFills: pair[:1]}).bytes())
			expectPut(t, bits.Writer{}, morph.Morph{Fills: pair[1:], ToFills: pair[1:]}, wordsPut(morph.Morph{Fills: pair[1:], ToFills: pair[1:]}).bytes())
			expectNotPut(t, morph.Morph{Fills: pair[:1], ToFills: pair[1:]})
			m := whole()
			m.Fills, m.ToFills = append(m.Fills, pair[0]), append(m.ToFills, pair[1])
			expectNotPut(t, m)
		}
	}
	// The same fills on both sides, but not in one order.
	m := whole()
	m.ToFills[0], m.ToFills[1] = m.ToFills[1], m.ToFills[0]
	expectNotPut(t, m)
}

// P10.1: a fill or a line that is not right, on either side, at any place of its list.
func TestStylesThatAreNotRight(t *testing.T) {
	wrong := []func(*api.Fill){
		func(f *api.Fill) { f.Kind = 1 },
		func(f *api.Fill) { f.Kind = 17 },
		func(f *api.Fill) { f.Kind = -1 },
		func(f *api.Fill) { f.Color.A = 256 },
		func(f *api.Fill) { f.Color.R = -1 },
		func(f *api.Fill) { f.Matrix.A = 1<<22 + 1 },
		func(f *api.Fill) { f.Matrix.Y = -1<<20 - 1 },
		func(f *api.Fill) { f.Spread = 3 },
		func(f *api.Fill) { f.Spread = -1 },
		func(f *api.Fill) { f.ID = 65536 },
		func(f *api.Fill) { f.ID = -1 },
		func(f *api.Fill) { f.Stops = make([]api.Stop, 9) },
		func(f *api.Fill) { f.Stops = []api.Stop{{Ratio: 256}} },
		func(f *api.Fill) { f.Stops = []api.Stop{{Ratio: -1}} },
		func(f *api.Fill) { f.Stops = []api.Stop{{Ratio: 5}, {Ratio: 4}} },
		func(f *api.Fill) { f.Stops = []api.Stop{{Color: api.RGBA{G: 256}}} },
	}
	for i := range whole().Fills {
		for _, change := range wrong {
			// On one side alone, and on both, which are of one form then.
			for sides := 1; sides < 4; sides++ {
				m := whole()
				if sides&1 > 0 {
					change(&m.Fills[i])
				}
				if sides&2 > 0 {
					change(&m.ToFills[i])
				}
				expectNotPut(t, m)
			}
		}
	}
	for i := range whole().Strokes {
		for _, s := range []api.Stroke{{Width: -1}, {Width: 65536}, {Color: api.RGBA{A: 256}}, {Color: api.RGBA{G: -1}}, {Width: most}} {
			m := whole()
			m.Strokes[i] = s
			expectNotPut(t, m)
			m = whole()
			m.ToStrokes[i] = s
			expectNotPut(t, m)
		}
	}
	for _, n := range []int{16, 17, 255, 256} {
		expectNotPut(t, morph.Morph{Fills: make([]api.Fill, n), ToFills: make([]api.Fill, n)})
		expectNotPut(t, morph.Morph{Strokes: make([]api.Stroke, n), ToStrokes: make([]api.Stroke, n)})
	}
}

// P10.1: Records are right and plain beside the styles, Target right and bare.
func TestRecordsThatAreNotRight(t *testing.T) {
	fresh := api.Record{Kind: 3}
	full := api.Record{Kind: 3, Fills: []api.Fill{{Color: red}}, Strokes: []api.Stroke{{Width: 1}}}
	none := []api.Record{{}, {Kind: 6}, {Kind: -1}, {Kind: 4, CX: 1}, {Kind: 1, Left: -1}, lines(65536, 0), curves(0, -65537, 0, 0), moves(1<<20+1, 0), moves(0, least), fresh, full, sets(-1, -1, -1)}
	// Beside 5 fills and 2 lines, and beside none.
	for _, v := range append(none, sets(6, 0, 0), sets(0, 6, 0), sets(0, 0, 3), sets(-2, 0, 0)) {
		for i := range len(whole().Records) + 1 {
			m := whole()
			m.Records = slices.Insert(m.Records, i, v)
			expectNotPut(t, m)
		}
		expectNotPut(t, morph.Morph{Records: []api.Record{v}})
	}
	for _, v := range append(none, sets(0, 0, 0), sets(1, -1, -1), sets(-1, 1, -1), sets(-1, -1, 1), sets(-1, -1, 0)) {
		for i := range len(whole().Target) + 1 {
			m := whole()
			m.Target = slices.Insert(m.Target, i, v)
			expectNotPut(t, m)
		}
		expectNotPut(t, morph.Morph{Target: []api.Record{v}})
	}
	for _, v := range []api.Record{sets(1, -1, -1), sets(-1, 1, -1), sets(-1, -1, 1)} {
		expectNotPut(t, morph.Morph{Records: []api.Record{v}})
	}
	expectNotPut(t, morph.Morph{Fills: []api.Fill{{}}, ToFills: []api.Fill{{}}, Records: []api.Record{sets(0, 0, 1)}})
	expectNotPut(t, morph.Morph{Strokes: []api.Stroke{{}}, ToStrokes: []api.Stroke{{}}, Records: []api.Record{sets(1, 0, 0)}})
}

// P10.1, P10.2: at most 512 records on each side.
func TestHowManyRecords(t *testing.T) {
	for _, n := range []int{0, 1, 511, 512} {
		l := slices.Repeat([]api.Record{lines(1, 0)}, n)
		for _, m := range []morph.Morph{{Records: l}, {Target: l}, {Records: l, Target: l}} {
			s := wordsPut(m).bytes()
			expectPut(t, bits.Writer{S: "q"}, m, "q"+s)
			expectTaken(t, bits.Reader{S: "q" + s, At: 8}, m, 8+8*len(s))
		}
	}
	l := slices.Repeat([]api.Record{lines(1, 0)}, 513)
	expectNotPut(t, morph.Morph{Records: l})
	expectNotPut(t, morph.Morph{Target: l})
}

// P10.1, P10.2: both kinds of records beside no styles and beside 15.
func TestRecordsBesideStyles(t *testing.T) {
	for _, fills := range []int{0, 1, 2, 7, 8, 15} {
		for _, strokes := range []int{0, 1, 3, 4, 15} {
			m := morph.Morph{
				Fills: make([]api.Fill, fills), ToFills: make([]api.Fill, fills),
				Strokes: make([]api.Stroke, strokes), ToStrokes: make([]api.Stroke, strokes),
				Records: []api.Record{moves(1, 2), sets(fills, 0, strokes), lines(4, 5), sets(-1, fills, -1), curves(1, 2, 3, 4), sets(-1, -1, strokes)},
				Target:  []api.Record{curves(9, 8, 7, 6), lines(0, 5), moves(-1, -2)},
			}
			expectBoth(t, m, wordsPut(m).bytes())
			m.Records[1].Right = fills + 1
			expectNotPut(t, m)
			m.Records[1].Right, m.Records[5].Line = 0, strokes+1
			expectNotPut(t, m)
		}
	}
}

// P10.1: behind each writer, from a whole byte on; one that is not right has no free bits.
func TestPutBehindAnyWriter(t *testing.T) {
	for _, m := range []morph.Morph{{}, whole()} {
		s := wordsPut(m).bytes()
		for _, w := range writers() {
			expectPut(t, w, m, w.S+s)
			if got, e := morph.Put(w, morph.Morph{ID: -1}); e != api.ErrArg || got != (bits.Writer{}) {
				t.Errorf("Put(%#v) of none: %#v, error %d", w, got, e)
			}
		}
	}
}

// P10.1: a list that is nil and one that is empty are the same, here and within a fill and a record.
func TestListsOfNone(t *testing.T) {
	m := morph.Morph{Fills: []api.Fill{}, Strokes: []api.Stroke{}, Records: []api.Record{}}
	expectBoth(t, m, wordsPut(morph.Morph{}).bytes())
	m = morph.Morph{ToFills: []api.Fill{}, ToStrokes: []api.Stroke{}, Target: []api.Record{}}
	expectBoth(t, m, wordsPut(morph.Morph{}).bytes())
	m = morph.Morph{Fills: []api.Fill{{Color: red, Stops: []api.Stop{}}}, ToFills: []api.Fill{{Color: blue}}}
	expectBoth(t, m, wordsPut(m).bytes())
	m.Records = []api.Record{{Kind: 4, X: 1, Fills: []api.Fill{}}}
	m.Target = []api.Record{{Kind: 4, X: 1, Strokes: []api.Stroke{}}}
	expectBoth(t, m, wordsPut(m).bytes())
	if s, e := morph.At(m, 9); e != api.OK || !sameAs(s.Records, []api.Record{lines(1, 0)}) {
		t.Errorf("At: %+v, error %d", s, e)
	}
}

// P10.1: whatever is changed in one number of a morph, the layer says of it what the words say.
func TestRightOfAlteredMorphs(t *testing.T) {
	values := []int{least, -1048577, -65537, -65536, -3, -2, -1, 0, 1, 2, 3, 5, 6, 16, 18, 64, 65, 255, 256, 513, 65535, 65536, 1048577, 4194305, 1<<32 + 1, most}
	for i := range 1000 {
		m := whole()
		l := morphNumbers(&m)
		if i >= len(l) {
			break
		}
		for _, v := range values {
			*l[i] = v
			if wordsRight(m) {
				expectPut(t, bits.Writer{}, m, wordsPut(m).bytes())
			} else {
				expectNotPut(t, m)
			}
		}
	}
}

// morphNumbers are where all numbers of a morph stand.
func morphNumbers(m *morph.Morph) []*int {
	l := []*int{&m.ID}
	l = append(l, rectNumbers(&m.From)...)
	l = append(l, rectNumbers(&m.To)...)
	for _, fills := range [][]api.Fill{m.Fills, m.ToFills} {
		for i := range fills {
			l = append(l, &fills[i].Kind, &fills[i].Spread, &fills[i].ID)
			l = append(l, fillNumbers(&fills[i])...)
		}
	}
	for _, strokes := range [][]api.Stroke{m.Strokes, m.ToStrokes} {
		for i := range strokes {
			l = append(l, strokeNumbers(&strokes[i])...)
		}
	}
	for _, records := range [][]api.Record{m.Records, m.Target} {
		for i := range records {
			v := &records[i]
			l = append(l, &v.Kind, &v.Left, &v.Right, &v.Line)
			l = append(l, wayNumbers(v)...)
		}
	}
	return l
}
