package morph_test

import (
	"math"
	"math/big"

	"celluloid/api"
	"celluloid/bits"
	"celluloid/field"
	"celluloid/morph"
	"celluloid/shape"
	"celluloid/style"
)

// The chapter's words once more, with the parts of layers 7 to 9 as these write and take them, and with nothing of this layer: what the tests hold the layer against.

// Numbers that nothing holds.
const (
	most  = math.MaxInt64
	least = math.MinInt64
)

// wordsRight: is it right?
func wordsRight(m morph.Morph) bool {
	if m.ID < 0 || m.ID > 65535 || !field.RightRect(m.From) || !field.RightRect(m.To) {
		return false
	}
	if !style.Right(m.Fills, nil) || !style.Right(m.ToFills, nil) || !style.Right(nil, m.Strokes) || !style.Right(nil, m.ToStrokes) {
		return false
	}
	if len(m.Fills) != len(m.ToFills) || len(m.Strokes) != len(m.ToStrokes) {
		return false
	}
	for i := range m.Fills {
		a, b := m.Fills[i], m.ToFills[i]
		if a.Kind != b.Kind || a.Spread != b.Spread || a.ID != b.ID || len(a.Stops) != len(b.Stops) {
			return false
		}
	}
	return shape.RightRecords(len(m.Fills), len(m.Strokes), m.Records, shape.Plain) && shape.RightRecords(0, 0, m.Target, shape.Bare)
}

// parts are how the words tell the bytes of a morph: its head, the four bytes, what they count, and Target.
type parts struct {
	head, length, body, target string
}

func (p parts) bytes() string {
	return p.head + p.length + p.body + p.target
}

// wordsPut are a right morph's bytes.
func wordsPut(m morph.Morph) parts {
	var p parts
	p.head = little(m.ID, 2) + rectBytes(m.From) + rectBytes(m.To)
	p.body = little(len(m.Fills), 1)
	for i, a := range m.Fills {
		p.body += fillBytes(a, m.ToFills[i])
	}
	p.body += little(len(m.Strokes), 1)
	for i, a := range m.Strokes {
		b := m.ToStrokes[i]
		p.body += little(a.Width, 2) + little(b.Width, 2) + colorBytes(a.Color) + colorBytes(b.Color)
	}
	p.body += recordBytes(len(m.Fills), len(m.Strokes), m.Records, shape.Plain)
	p.length = little(len(p.body), 4)
	p.target = recordBytes(0, 0, m.Target, shape.Bare)
	return p
}

func fillBytes(a api.Fill, b api.Fill) string {
	s := little(a.Kind, 1)
	switch a.Kind {
	case 0:
		s += colorBytes(a.Color) + colorBytes(b.Color)
	case 16, 18:
		s += matrixBytes(a.Matrix) + matrixBytes(b.Matrix) + little(64*a.Spread+len(a.Stops), 1)
		for i := range a.Stops {
			s += little(a.Stops[i].Ratio, 1) + colorBytes(a.Stops[i].Color)
			s += little(b.Stops[i].Ratio, 1) + colorBytes(b.Stops[i].Color)
		}
	case 64, 65:
		s += little(a.ID, 2) + matrixBytes(a.Matrix) + matrixBytes(b.Matrix)
	}
	return s
}

// little is a number in n bytes, the lowest first.
func little(v int, n int) string {
	var s []byte
	for range n {
		s = append(s, byte(v%256))
		v /= 256
	}
	return string(s)
}

// part is what a layer below has written; it must have been right.
func part(w bits.Writer, e api.Errno) string {
	if e != api.OK {
		panic("what is not right has no bytes")
	}
	return w.S
}

func colorBytes(c api.RGBA) string { return part(field.PutRGBA(bits.Writer{}, c)) }

func matrixBytes(m api.Matrix) string { return part(field.PutMatrix(bits.Writer{}, m)) }

func rectBytes(r api.Rect) string { return part(field.PutRect(bits.Writer{}, r)) }

func recordBytes(fills int, strokes int, l []api.Record, kind int) string {
	return part(shape.PutRecords(bits.Writer{}, fills, strokes, l, kind))
}

// source is bytes that are read part after part; it panics with the error that the words tell at that place.
type source struct {
	r bits.Reader
}

func of[T any](s *source, v T, r bits.Reader, e api.Errno) T {
	s.demand(e == api.OK, e)
	s.r = r
	return v
}

func (s *source) demand(holds bool, e api.Errno) {
	if !holds {
		panic(e)
	}
}

func (s *source) number(n int) int {
	v, r, e := bits.Little(s.r, n)
	return of(s, v, r, e)
}

func (s *source) color() api.RGBA {
	v, r, e := field.TakeRGBA(s.r)
	return of(s, v, r, e)
}

func (s *source) matrix() api.Matrix {
	v, r, e := field.TakeMatrix(s.r)
	return of(s, v, r, e)
}

func (s *source) rect() api.Rect {
	v, r, e := field.TakeRect(s.r)
	return of(s, v, r, e)
}

func (s *source) records(fills int, strokes int, kind int) []api.Record {
	v, r, e := shape.TakeRecords(s.r, fills, strokes, kind)
	return of(s, v, r, e)
}

func (s *source) count() int {
	n := s.number(1)
	s.demand(n <= 15, api.ErrLimit)
	return n
}

func (s *source) fills() (a api.Fill, b api.Fill) {
	a.Kind = s.number(1)
	b.Kind = a.Kind
	switch a.Kind {
	case 0:
		a.Color = s.color()
		b.Color = s.color()
	case 16, 18:
		a.Matrix = s.matrix()
		b.Matrix = s.matrix()
		told := s.number(1)
		a.Spread, b.Spread = told/64, told/64
		s.demand(told/64 < 3 && told/16%4 == 0 && told%16 > 0 && told%16 < 9, api.ErrField)
		for i := range told % 16 {
			var p, q api.Stop
			p.Ratio = s.number(1)
			p.Color = s.color()
			q.Ratio = s.number(1)
			s.demand(i == 0 || p.Ratio >= a.Stops[i-1].Ratio && q.Ratio >= b.Stops[i-1].Ratio, api.ErrField)
			q.Color = s.color()
			a.Stops, b.Stops = append(a.Stops, p), append(b.Stops, q)
		}
	case 64, 65:
		a.ID = s.number(2)
		b.ID = a.ID
		a.Matrix = s.matrix()
		b.Matrix = s.matrix()
	default:
		panic(api.ErrField)
	}
	return a, b
}

func (s *source) morph() (m morph.Morph) {
	m.ID = s.number(2)
	m.From = s.rect()
	m.To = s.rect()
	length := s.number(4)
	begin := s.r.At / 8
	for range s.count() {
		a, b := s.fills()
		m.Fills, m.ToFills = append(m.Fills, a), append(m.ToFills, b)
	}
	for range s.count() {
		var a, b api.Stroke
		a.Width = s.number(2)
		b.Width = s.number(2)
		a.Color = s.color()
		b.Color = s.color()
		m.Strokes, m.ToStrokes = append(m.Strokes, a), append(m.ToStrokes, b)
	}
	m.Records = s.records(len(m.Fills), len(m.Strokes), shape.Plain)
	end := s.r.At / 8
	m.Target = s.records(0, 0, shape.Bare)
	s.demand(begin+length == end, api.ErrField)
	return m
}

// wordsTake is the morph that stands at r, the bit behind it, and the error.
func wordsTake(r bits.Reader) (m morph.Morph, end int, e api.Errno) {
	if r.At < 0 || r.At > 8*len(r.S) {
		return m, 0, api.ErrArg
	}
	defer func() {
		switch told := recover().(type) {
		case nil:
		case api.Errno:
			m, end, e = morph.Morph{}, 0, told
		default:
			panic(told)
		}
	}()
	s := &source{r}
	m = s.morph()
	return m, s.r.At, api.OK
}

// wordsBetween is by numbers of any size.
func wordsBetween(a int, b int, t int) int {
	const bound = 1099511627776
	if a < -bound || a > bound || b < -bound || b > bound {
		return 0
	}
	if t < 0 {
		t = 0
	}
	if t > 65535 {
		t = 65535
	}
	way := new(big.Int).Sub(big.NewInt(int64(b)), big.NewInt(int64(a)))
	way.Mul(way, big.NewInt(int64(t)))
	// Div is the floor, as what divides is above 0.
	way.Div(way, big.NewInt(65535))
	return int(way.Add(way, big.NewInt(int64(a))).Int64())
}

// Lists of where the numbers of things stand.
func rectNumbers(r *api.Rect) []*int { return []*int{&r.Left, &r.Right, &r.Top, &r.Bottom} }

func colorNumbers(c *api.RGBA) []*int { return []*int{&c.R, &c.G, &c.B, &c.A} }

func matrixNumbers(m *api.Matrix) []*int { return []*int{&m.A, &m.B, &m.C, &m.D, &m.X, &m.Y} }

func strokeNumbers(s *api.Stroke) []*int { return append(colorNumbers(&s.Color), &s.Width) }

// fillNumbers makes the stops its own first.
func fillNumbers(f *api.Fill) []*int {
	l := append(colorNumbers(&f.Color), matrixNumbers(&f.Matrix)...)
	f.Stops = append([]api.Stop(nil), f.Stops...)
	for i := range f.Stops {
		l = append(l, &f.Stops[i].Ratio)
		l = append(l, colorNumbers(&f.Stops[i].Color)...)
	}
	return l
}

func wayNumbers(v *api.Record) []*int { return []*int{&v.CX, &v.CY, &v.X, &v.Y} }

// turned is a, all numbers of which are those at the ratio t on the way to b's.
func turned[T any](a T, b T, t int, numbers func(*T) []*int) T {
	to := numbers(&b)
	for i, p := range numbers(&a) {
		*p = wordsBetween(*p, *to[i], t)
	}
	return a
}

// wordsCurve is a Line as a Curve.
func wordsCurve(v api.Record) api.Record {
	half := func(v int) int { return int(math.Floor(float64(v) / 2)) }
	return api.Record{Kind: 5, CX: half(v.X), CY: half(v.Y), X: v.X - half(v.X), Y: v.Y - half(v.Y)}
}

// wordsAt is the shape at a ratio, and the error.
func wordsAt(m morph.Morph, t int) (s shape.Shape, e api.Errno) {
	if !wordsRight(m) || t < 0 || t > 65535 {
		return s, api.ErrArg
	}
	var ways []int
	for i, v := range m.Records {
		if v.Kind != 2 {
			ways = append(ways, i)
		}
	}
	if len(ways) != len(m.Target) {
		return s, api.ErrField
	}
	s.Records = append(s.Records, m.Records...)
	for i, at := range ways {
		a, b := m.Records[at], m.Target[i]
		if a.Kind == 4 && b.Kind == 5 {
			a = wordsCurve(a)
		}
		if a.Kind == 5 && b.Kind == 4 {
			b = wordsCurve(b)
		}
		if a.Kind != b.Kind {
			return shape.Shape{}, api.ErrField
		}
		s.Records[at] = turned(a, b, t, wayNumbers)
	}
	s.ID, s.Bounds = m.ID, turned(m.From, m.To, t, rectNumbers)
	for i := range m.Fills {
		s.Fills = append(s.Fills, turned(m.Fills[i], m.ToFills[i], t, fillNumbers))
	}
	for i := range m.Strokes {
		s.Strokes = append(s.Strokes, turned(m.Strokes[i], m.ToStrokes[i], t, strokeNumbers))
	}
	return s, api.OK
}
