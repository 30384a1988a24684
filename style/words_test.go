package style

import (
	"fmt"
	"math"
	"strings"

	"celluloid/api"
)

// The chapter's words once more, with layer 7's colours and matrices in texts of digits, and with nothing of the layers below or of this one: what the tests hold the layer against.

// Numbers that nothing holds.
const (
	most  = math.MaxInt64
	least = math.MinInt64
)

// wordsFill: is it right?
func wordsFill(f api.Fill) bool {
	noColor := f.Color == api.RGBA{}
	noMatrix := f.Matrix == api.Matrix{}
	switch f.Kind {
	case 0:
		return wordsColor(f.Color) && noMatrix && f.Spread == 0 && len(f.Stops) == 0 && f.ID == 0
	case 16, 18:
		if !wordsMatrix(f.Matrix) || f.Spread < 0 || f.Spread > 2 || len(f.Stops) < 1 || len(f.Stops) > 8 {
			return false
		}
		for i, s := range f.Stops {
			if s.Ratio < 0 || s.Ratio > 255 || i > 0 && s.Ratio < f.Stops[i-1].Ratio || !wordsColor(s.Color) {
				return false
			}
		}
		return noColor && f.ID == 0
	case 64, 65:
		return wordsMatrix(f.Matrix) && f.ID >= 0 && f.ID <= 65535 && noColor && f.Spread == 0 && len(f.Stops) == 0
	}
	return false
}

// wordsStroke: is it right?
func wordsStroke(s api.Stroke) bool {
	return s.Width >= 0 && s.Width <= 65535 && wordsColor(s.Color)
}

func wordsColor(c api.RGBA) bool {
	for _, v := range []int{c.R, c.G, c.B, c.A} {
		if v < 0 || v > 255 {
			return false
		}
	}
	return true
}

func wordsMatrix(m api.Matrix) bool {
	for _, v := range []int{m.A, m.B, m.C, m.D} {
		if v < -4194304 || v > 4194304 {
			return false
		}
	}
	return m.X >= -1048576 && m.X <= 1048576 && m.Y >= -1048576 && m.Y <= 1048576
}

// wordsPut is both lists as bytes.
func wordsPut(fills []api.Fill, strokes []api.Stroke) string {
	s := []byte{byte(len(fills))}
	for _, f := range fills {
		s = append(s, byte(f.Kind))
		switch f.Kind {
		case 0:
			s = append(s, colorBytes(f.Color)...)
		case 16, 18:
			s = append(s, matrixBytes(f.Matrix)...)
			s = append(s, byte(64*f.Spread+len(f.Stops)))
			for _, p := range f.Stops {
				s = append(s, byte(p.Ratio))
				s = append(s, colorBytes(p.Color)...)
			}
		case 64, 65:
			s = append(s, byte(f.ID%256), byte(f.ID/256))
			s = append(s, matrixBytes(f.Matrix)...)
		}
	}
	s = append(s, byte(len(strokes)))
	for _, l := range strokes {
		s = append(s, byte(l.Width%256), byte(l.Width/256))
		s = append(s, colorBytes(l.Color)...)
	}
	return string(s)
}

func colorBytes(c api.RGBA) string {
	return string([]byte{byte(c.R), byte(c.G), byte(c.B), byte(c.A)})
}

func matrixBytes(m api.Matrix) string {
	d := "0"
	if m.A != 65536 || m.D != 65536 {
		d = "1" + pairDigits(m.A, m.D)
	}
	if m.B != 0 || m.C != 0 {
		d += "1" + pairDigits(m.B, m.C)
	} else {
		d += "0"
	}
	return inBytes(d + pairDigits(m.X, m.Y))
}

// wideMatrixBytes tells all that may be told, in a width that is greater than it must be.
func wideMatrixBytes(m api.Matrix, n int) string {
	return inBytes("1" + digitsIn(n, m.A, m.D) + "1" + digitsIn(n, m.B, m.C) + digitsIn(n, m.X, m.Y))
}

// pairDigits are two numbers behind their least width, found by trying one after another.
func pairDigits(a int, b int) string {
	n := 0
	for ; !fits(a, n) || !fits(b, n); n++ {
	}
	return digitsIn(n, a, b)
}

func fits(v int, n int) bool {
	return v == 0 || n > 0 && v >= -1<<(n-1) && v < 1<<(n-1)
}

// digitsIn are a width in 5 digits, and two numbers in it.
func digitsIn(n int, l ...int) string {
	d := fmt.Sprintf("%05b", n)
	for _, v := range l {
		if v < 0 {
			v += 1 << n
		}
		if n > 0 {
			d += fmt.Sprintf("%0*b", n, v)
		}
	}
	return d
}

// inBytes are digits as bytes; the free ones of the last byte are 0.
func inBytes(d string) string {
	d += strings.Repeat("0", (8-len(d)%8)%8)
	s := make([]byte, len(d)/8)
	for i := range s {
		for _, c := range d[8*i : 8*i+8] {
			s[i] = 2*s[i] + byte(c-'0')
		}
	}
	return string(s)
}

// source is bytes that are read one after another; it panics with the error that the words tell at that place.
type source struct {
	s  string
	at int
}

func (s *source) byte() int {
	if s.at >= len(s.s) {
		panic(api.ErrShort)
	}
	s.at++
	return int(s.s[s.at-1])
}

func (s *source) count() int {
	n := s.byte()
	if n > 15 {
		panic(api.ErrLimit)
	}
	return n
}

func (s *source) color() api.RGBA {
	return api.RGBA{R: s.byte(), G: s.byte(), B: s.byte(), A: s.byte()}
}

// matrix reads bytes only when a digit of them is asked for, and leaves behind the last of them.
func (s *source) matrix() api.Matrix {
	digits := ""
	number := func(n int, signed bool) int {
		for len(digits) < n {
			digits += fmt.Sprintf("%08b", s.byte())
		}
		v := 0
		for i, c := range digits[:n] {
			v = 2*v + int(c-'0')
			if i == 0 && signed {
				v = -v
			}
		}
		digits = digits[n:]
		return v
	}
	pair := func() (int, int) {
		n := number(5, false)
		a := number(n, true)
		return a, number(n, true)
	}
	m := api.Matrix{A: 65536, D: 65536}
	if number(1, false) == 1 {
		m.A, m.D = pair()
	}
	if number(1, false) == 1 {
		m.B, m.C = pair()
	}
	m.X, m.Y = pair()
	if !wordsMatrix(m) {
		panic(api.ErrField)
	}
	return m
}

func (s *source) fill() api.Fill {
	f := api.Fill{Kind: s.byte()}
	switch f.Kind {
	case 0:
		f.Color = s.color()
	case 16, 18:
		f.Matrix = s.matrix()
		told := s.byte()
		f.Spread = told / 64
		count := told % 16
		if f.Spread == 3 || told/16%4 != 0 || count == 0 || count > 8 {
			panic(api.ErrField)
		}
		for i := range count {
			ratio := s.byte()
			if i > 0 && ratio < f.Stops[i-1].Ratio {
				panic(api.ErrField)
			}
			f.Stops = append(f.Stops, api.Stop{Ratio: ratio, Color: s.color()})
		}
	case 64, 65:
		low := s.byte()
		f.ID = low + 256*s.byte()
		f.Matrix = s.matrix()
	default:
		panic(api.ErrField)
	}
	return f
}

func (s *source) stroke() api.Stroke {
	low := s.byte()
	return api.Stroke{Width: low + 256*s.byte(), Color: s.color()}
}

// wordsTake is both lists that stand at a bit of bytes, the bit behind them, and the error.
func wordsTake(s string, bit int) (fills []api.Fill, strokes []api.Stroke, end int, e api.Errno) {
	if bit < 0 || bit > 8*len(s) {
		return nil, nil, 0, api.ErrArg
	}
	defer func() {
		switch told := recover().(type) {
		case nil:
		case api.Errno:
			fills, strokes, end, e = nil, nil, 0, told
		default:
			panic(told)
		}
	}()
	from := source{s, (bit + 7) / 8}
	for range from.count() {
		fills = append(fills, from.fill())
	}
	for range from.count() {
		strokes = append(strokes, from.stroke())
	}
	return fills, strokes, 8 * from.at, api.OK
}
