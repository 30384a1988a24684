package shape

import (
	"fmt"
	"math"
	"strings"

	"celluloid/api"
)

// The chapter's words once more, with those of layers 2, 7 and 8 that it leans on, in texts of digits, and with nothing of the layers below or of this one: what the tests hold the layer against.

// Numbers that nothing holds.
const (
	most  = math.MaxInt64
	least = math.MinInt64
)

// beside is what records stand beside, and of which kind they are.
type beside struct{ fills, strokes, kind int }

func (p beside) isRight() bool {
	return p.fills >= 0 && p.fills <= 15 && p.strokes >= 0 && p.strokes <= 15 && (p.kind == 0 || p.kind == 1 || p.kind == 2)
}

// wordsRight: are the records right there?
func (p beside) wordsRight(l []api.Record) bool {
	if !p.isRight() || len(l) > 512 {
		return false
	}
	for _, v := range l {
		if v.Kind == 3 && p.kind != 0 || v.Kind == 2 && p.kind == 2 || !p.wordsRecord(v) {
			return false
		}
		if v.Kind == 3 {
			p.fills, p.strokes = len(v.Fills), len(v.Strokes)
		}
	}
	return true
}

func (p beside) wordsRecord(v api.Record) bool {
	noXY := v.X == 0 && v.Y == 0
	noC := v.CX == 0 && v.CY == 0
	noStyle := v.Left == 0 && v.Right == 0 && v.Line == 0
	noLists := len(v.Fills) == 0 && len(v.Strokes) == 0
	all := func(from int, to int, l ...int) bool {
		for _, v := range l {
			if v < from || v > to {
				return false
			}
		}
		return true
	}
	switch v.Kind {
	case 1:
		return all(-1048576, 1048576, v.X, v.Y) && noC && noStyle && noLists
	case 2:
		none := v.Left == -1 && v.Right == -1 && v.Line == -1
		return all(-1, p.fills, v.Left, v.Right) && all(-1, p.strokes, v.Line) && !none && noXY && noC && noLists
	case 3:
		return wordsLists(v.Fills, v.Strokes) && noXY && noC && noStyle
	case 4:
		return all(-65536, 65535, v.X, v.Y) && noC && noStyle && noLists
	case 5:
		return all(-65536, 65535, v.CX, v.CY, v.X, v.Y) && noStyle && noLists
	}
	return false
}

func wordsShape(s Shape) bool {
	return s.ID >= 0 && s.ID <= 65535 && wordsRect(s.Bounds) && wordsLists(s.Fills, s.Strokes) && beside{len(s.Fills), len(s.Strokes), 0}.wordsRight(s.Records)
}

func wordsRect(r api.Rect) bool {
	for _, v := range []int{r.Left, r.Right, r.Top, r.Bottom} {
		if v < -1048576 || v > 1048576 {
			return false
		}
	}
	return r.Left <= r.Right && r.Top <= r.Bottom
}

func wordsLists(fills []api.Fill, strokes []api.Stroke) bool {
	if len(fills) > 15 || len(strokes) > 15 {
		return false
	}
	for _, f := range fills {
		if !wordsFill(f) {
			return false
		}
	}
	for _, s := range strokes {
		if s.Width < 0 || s.Width > 65535 || !wordsColor(s.Color) {
			return false
		}
	}
	return true
}

func wordsFill(f api.Fill) bool {
	noColor := f.Color == api.RGBA{}
	noMatrix := f.Matrix == api.Matrix{}
	switch f.Kind {
	case 0:
		return wordsColor(f.Color) && noMatrix && f.Spread == 0 && len(f.Stops) == 0 && f.ID == 0
	case 16, 18:
		if !wordsMatrix(f.Matrix) || f.Spread < 0 || f.Spread > 2 || len(f.Stops) < 1 || len(f.Stops) > 8 {
			return false
		}
		for i, s := range f.Stops {
			if s.Ratio < 0 || s.Ratio > 255 || i > 0 && s.Ratio < f.Stops[i-1].Ratio || !wordsColor(s.Color) {
				return false
			}
		}
		return noColor && f.ID == 0
	case 64, 65:
		return wordsMatrix(f.Matrix) && f.ID >= 0 && f.ID <= 65535 && noColor && f.Spread == 0 && len(f.Stops) == 0
	}
	return false
}

func wordsColor(c api.RGBA) bool {
	for _, v := range []int{c.R, c.G, c.B, c.A} {
		if v < 0 || v > 255 {
			return false
		}
	}
	return true
}

func wordsMatrix(m api.Matrix) bool {
	for _, v := range []int{m.A, m.B, m.C, m.D} {
		if v < -4194304 || v > 4194304 {
			return false
		}
	}
	return m.X >= -1048576 && m.X <= 1048576 && m.Y >= -1048576 && m.Y <= 1048576
}

// wordsWidth is the width of numbers, found by trying one after another.
func wordsWidth(l ...int) int {
	widest := 0
	for _, v := range l {
		n := 0
		for ; v != 0 && !(n > 0 && v >= -1<<(n-1) && v < 1<<(n-1)); n++ {
		}
		widest = max(widest, n)
	}
	return widest
}

// countWidth is the plain width of how many styles there are.
func countWidth(count int) int {
	switch {
	case count == 0:
		return 0
	case count == 1:
		return 1
	case count <= 3:
		return 2
	case count <= 7:
		return 3
	}
	return 4
}

// digitsIn are numbers in n digits each.
func digitsIn(n int, l ...int) string {
	var b strings.Builder
	for _, v := range l {
		if v < 0 {
			v += 1 << n
		}
		if n > 0 {
			fmt.Fprintf(&b, "%0*b", n, v)
		}
	}
	return b.String()
}

// byteDigits are the digits of bytes.
func byteDigits(s string) string {
	var b strings.Builder
	for i := range len(s) {
		b.WriteString(digitsIn(8, int(s[i])))
	}
	return b.String()
}

// aligned are digits, with 0 up to a whole byte.
func aligned(d string) string {
	return d + strings.Repeat("0", (8-len(d)%8)%8)
}

// inBytes are digits as bytes; spaces between them are nothing, and the free ones of the last byte are 0.
func inBytes(d string) string {
	d = aligned(strings.ReplaceAll(d, " ", ""))
	s := make([]byte, len(d)/8)
	for i := range s {
		for _, c := range d[8*i : 8*i+8] {
			s[i] = 2*s[i] + byte(c-'0')
		}
	}
	return string(s)
}

// styleWidths are the digits ahead of records that stand beside so many.
func styleWidths(fills int, strokes int) string {
	return digitsIn(4, countWidth(fills), countWidth(strokes))
}

// wordsPut are the records as bytes.
func (p beside) wordsPut(l []api.Record) string {
	var b strings.Builder
	b.WriteString(styleWidths(p.fills, p.strokes))
	for _, v := range l {
		if v.Kind != 3 {
			b.WriteString(p.digits(v))
			continue
		}
		b.WriteString("010000")
		lists := byteDigits(listBytes(v.Fills, v.Strokes))
		p.fills, p.strokes = len(v.Fills), len(v.Strokes)
		b.WriteString(strings.Repeat("0", (8-b.Len()%8)%8) + lists + styleWidths(p.fills, p.strokes))
	}
	b.WriteString("000000")
	return inBytes(b.String())
}

// digits of a record that is no Fresh.
func (p beside) digits(v api.Record) string {
	switch v.Kind {
	case 1:
		n := wordsWidth(v.X, v.Y)
		return "000001" + digitsIn(5, n) + digitsIn(n, v.X, v.Y)
	case 2:
		told, numbers := "", ""
		for _, x := range [][2]int{{v.Left, p.fills}, {v.Right, p.fills}, {v.Line, p.strokes}} {
			if x[0] == -1 {
				told = "0" + told
				continue
			}
			told = "1" + told
			numbers += digitsIn(countWidth(x[1]), x[0])
		}
		return "00" + told + "0" + numbers
	case 4:
		n := max(2, wordsWidth(v.X, v.Y))
		return lineDigits(n, v.X, v.Y)
	}
	n := max(2, wordsWidth(v.X, v.Y, v.CX, v.CY))
	return "10" + digitsIn(4, n-2) + digitsIn(n, v.CX, v.CY, v.X, v.Y)
}

// lineDigits are a Line in the width n.
func lineDigits(n int, x int, y int) string {
	d := "11" + digitsIn(4, n-2)
	switch {
	case x != 0 && y != 0:
		return d + "1" + digitsIn(n, x, y)
	case x == 0:
		return d + "01" + digitsIn(n, y)
	}
	return d + "00" + digitsIn(n, x)
}

// shapeBytes are a shape as bytes.
func shapeBytes(s Shape) string {
	return string([]byte{byte(s.ID % 256), byte(s.ID / 256)}) + rectBytes(s.Bounds) + listBytes(s.Fills, s.Strokes) + beside{len(s.Fills), len(s.Strokes), 0}.wordsPut(s.Records)
}

func rectBytes(r api.Rect) string {
	n := wordsWidth(r.Left, r.Right, r.Top, r.Bottom)
	return inBytes(digitsIn(5, n) + digitsIn(n, r.Left, r.Right, r.Top, r.Bottom))
}

// listBytes are both lists as bytes.
func listBytes(fills []api.Fill, strokes []api.Stroke) string {
	s := []byte{byte(len(fills))}
	for _, f := range fills {
		s = append(s, byte(f.Kind))
		switch f.Kind {
		case 0:
			s = append(s, colorBytes(f.Color)...)
		case 16, 18:
			s = append(s, matrixBytes(f.Matrix)...)
			s = append(s, byte(64*f.Spread+len(f.Stops)))
			for _, p := range f.Stops {
				s = append(s, byte(p.Ratio))
				s = append(s, colorBytes(p.Color)...)
			}
		case 64, 65:
			s = append(s, byte(f.ID%256), byte(f.ID/256))
			s = append(s, matrixBytes(f.Matrix)...)
		}
	}
	s = append(s, byte(len(strokes)))
	for _, l := range strokes {
		s = append(s, byte(l.Width%256), byte(l.Width/256))
		s = append(s, colorBytes(l.Color)...)
	}
	return string(s)
}

func colorBytes(c api.RGBA) string {
	return string([]byte{byte(c.R), byte(c.G), byte(c.B), byte(c.A)})
}

func matrixBytes(m api.Matrix) string {
	pair := func(a int, b int) string {
		n := wordsWidth(a, b)
		return digitsIn(5, n) + digitsIn(n, a, b)
	}
	d := "0"
	if m.A != 65536 || m.D != 65536 {
		d = "1" + pair(m.A, m.D)
	}
	if m.B != 0 || m.C != 0 {
		d += "1" + pair(m.B, m.C)
	} else {
		d += "0"
	}
	return inBytes(d + pair(m.X, m.Y))
}

// source is bytes whose bits are read one after another; it panics with the error that the words tell at that place.
type source struct {
	s   string
	bit int
}

func (s *source) plain(n int) int {
	v := 0
	for range n {
		if s.bit == 8*len(s.s) {
			panic(api.ErrShort)
		}
		v = 2*v + int(s.s[s.bit/8]>>(7-s.bit%8))&1
		s.bit++
	}
	return v
}

func (s *source) signed(n int) int {
	v := s.plain(n)
	if n > 0 && v >= 1<<(n-1) {
		v -= 1 << n
	}
	return v
}

func (s *source) align() {
	for s.bit%8 != 0 {
		s.bit++
	}
}

func (s *source) demand(holds bool, e api.Errno) {
	if !holds {
		panic(e)
	}
}

func (s *source) byte() int {
	s.align()
	return s.plain(8)
}

func (s *source) twoBytes() int {
	low := s.byte()
	return low + 256*s.byte()
}

func (s *source) color() api.RGBA {
	return api.RGBA{R: s.byte(), G: s.byte(), B: s.byte(), A: s.byte()}
}

func (s *source) pair() (int, int) {
	n := s.plain(5)
	a := s.signed(n)
	return a, s.signed(n)
}

func (s *source) matrix() api.Matrix {
	s.align()
	m := api.Matrix{A: 65536, D: 65536}
	if s.plain(1) == 1 {
		m.A, m.D = s.pair()
	}
	if s.plain(1) == 1 {
		m.B, m.C = s.pair()
	}
	m.X, m.Y = s.pair()
	s.align()
	s.demand(wordsMatrix(m), api.ErrField)
	return m
}

func (s *source) rect() api.Rect {
	s.align()
	n := s.plain(5)
	r := api.Rect{Left: s.signed(n), Right: s.signed(n), Top: s.signed(n), Bottom: s.signed(n)}
	s.align()
	s.demand(wordsRect(r), api.ErrField)
	return r
}

func (s *source) fill() api.Fill {
	f := api.Fill{Kind: s.byte()}
	switch f.Kind {
	case 0:
		f.Color = s.color()
	case 16, 18:
		f.Matrix = s.matrix()
		told := s.byte()
		f.Spread = told / 64
		count := told % 16
		s.demand(f.Spread < 3 && told/16%4 == 0 && count > 0 && count < 9, api.ErrField)
		for i := range count {
			ratio := s.byte()
			s.demand(i == 0 || ratio >= f.Stops[i-1].Ratio, api.ErrField)
			f.Stops = append(f.Stops, api.Stop{Ratio: ratio, Color: s.color()})
		}
	case 64, 65:
		f.ID = s.twoBytes()
		f.Matrix = s.matrix()
	default:
		panic(api.ErrField)
	}
	return f
}

func (s *source) lists() (fills []api.Fill, strokes []api.Stroke) {
	n := s.byte()
	s.demand(n <= 15, api.ErrLimit)
	for range n {
		fills = append(fills, s.fill())
	}
	n = s.byte()
	s.demand(n <= 15, api.ErrLimit)
	for range n {
		strokes = append(strokes, api.Stroke{Width: s.twoBytes(), Color: s.color()})
	}
	return fills, strokes
}

// records that stand there, up to their end.
func (s *source) records(p beside) (l []api.Record) {
	s.align()
	fillDigits, lineDigits := s.plain(4), s.plain(4)
	take := func(v api.Record) {
		s.demand(len(l) < 512, api.ErrLimit)
		l = append(l, v)
	}
	for {
		if s.plain(1) == 1 {
			take(s.way())
			continue
		}
		fresh, line, right, left, move := s.plain(1), s.plain(1), s.plain(1), s.plain(1), s.plain(1)
		if fresh+line+right+left+move == 0 {
			s.align()
			return l
		}
		s.demand(fresh == 0 || p.kind == 0, api.ErrField)
		s.demand(line+right+left == 0 || p.kind != 2, api.ErrField)
		m, set := api.Record{Kind: 1}, api.Record{Kind: 2, Left: -1, Right: -1, Line: -1}
		if move == 1 {
			m.X, m.Y = s.pair()
		}
		if left == 1 {
			set.Left = s.plain(fillDigits)
		}
		if right == 1 {
			set.Right = s.plain(fillDigits)
		}
		if line == 1 {
			set.Line = s.plain(lineDigits)
		}
		if fresh == 1 {
			v := api.Record{Kind: 3}
			v.Fills, v.Strokes = s.lists()
			fillDigits, lineDigits = s.plain(4), s.plain(4)
			p.fills, p.strokes = len(v.Fills), len(v.Strokes)
			take(v)
		}
		s.demand(p.wordsRecord(m), api.ErrField)
		s.demand(line+right+left == 0 || p.wordsRecord(set), api.ErrField)
		if move == 1 {
			take(m)
		}
		if line+right+left > 0 {
			take(set)
		}
	}
}

// way is a Line or a Curve, behind its first bit.
func (s *source) way() api.Record {
	v := api.Record{Kind: 5 - s.plain(1)}
	n := 2 + s.plain(4)
	if v.Kind == 5 {
		v.CX, v.CY, v.X, v.Y = s.signed(n), s.signed(n), s.signed(n), s.signed(n)
		return v
	}
	if s.plain(1) == 1 {
		v.X, v.Y = s.signed(n), s.signed(n)
	} else if s.plain(1) == 1 {
		v.Y = s.signed(n)
	} else {
		v.X = s.signed(n)
	}
	return v
}

func (s *source) shape() Shape {
	x := Shape{ID: s.twoBytes(), Bounds: s.rect()}
	x.Fills, x.Strokes = s.lists()
	x.Records = s.records(beside{len(x.Fills), len(x.Strokes), 0})
	return x
}

// reading is what read tells at a bit of bytes, the bit behind it, and the error.
func reading[T any](s string, bit int, read func(*source) T) (v T, end int, e api.Errno) {
	if bit < 0 || bit > 8*len(s) {
		return v, 0, api.ErrArg
	}
	defer func() {
		switch told := recover().(type) {
		case nil:
		case api.Errno:
			var none T
			v, end, e = none, 0, told
		default:
			panic(told)
		}
	}()
	from := &source{s, bit}
	v = read(from)
	return v, from.bit, api.OK
}

// wordsTake is the records that stand at a bit of bytes, the bit behind them, and the error.
func (p beside) wordsTake(s string, bit int) ([]api.Record, int, api.Errno) {
	if !p.isRight() {
		return nil, 0, api.ErrArg
	}
	return reading(s, bit, func(from *source) []api.Record { return from.records(p) })
}

// wordsTakeShape is the shape that stands at a bit of bytes, likewise.
func wordsTakeShape(s string, bit int) (Shape, int, api.Errno) {
	return reading(s, bit, (*source).shape)
}
