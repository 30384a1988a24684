package field

import (
	"fmt"
	"math"
	"strings"

	"celluloid/api"
)

// The chapter's words once more, in texts of digits, and with nothing of layer 2 or of this one: what the tests hold the layer against.

// Numbers that nothing holds.
const (
	most  = math.MaxInt64
	least = math.MinInt64
)

// The kinds that the layer writes and takes are lists of numbers here, in the order in which api's structs name them.
func rectOf(l []int) api.Rect { return api.Rect{Left: l[0], Right: l[1], Top: l[2], Bottom: l[3]} }

func matrixOf(l []int) api.Matrix {
	return api.Matrix{A: l[0], B: l[1], C: l[2], D: l[3], X: l[4], Y: l[5]}
}

func cxOf(l []int) api.Cx {
	return api.Cx{Mul: [4]int{l[0], l[1], l[2], l[3]}, Add: [4]int{l[4], l[5], l[6], l[7]}}
}

func rgbaOf(l []int) api.RGBA { return api.RGBA{R: l[0], G: l[1], B: l[2], A: l[3]} }

// wordsWidth is the width of the chapter of bits, found by trying one after another.
func wordsWidth(l ...int) int {
	widest := 0
	for _, v := range l {
		n := 0
		for ; v != 0 && !(n > 0 && v >= -1<<(n-1) && v < 1<<(n-1)); n++ {
		}
		widest = max(widest, n)
	}
	return widest
}

// plainDigits is v in n digits.
func plainDigits(v int, n int) string {
	if n == 0 {
		return ""
	}
	return fmt.Sprintf("%0*b", n, v)
}

// signDigits are numbers with signs in n digits each.
func signDigits(n int, l ...int) string {
	var b strings.Builder
	for _, v := range l {
		if v < 0 {
			v += 1 << n
		}
		b.WriteString(plainDigits(v, n))
	}
	return b.String()
}

// widthAndDigits are a width in so many digits, and numbers in it.
func widthAndDigits(size int, n int, l ...int) string {
	return plainDigits(n, size) + signDigits(n, l...)
}

// inBytes are digits as bytes; the free ones of the last byte are all as the filler.
func inBytes(d string, filler string) string {
	d += strings.Repeat(filler, (8-len(d)%8)%8)
	s := make([]byte, len(d)/8)
	for i := range s {
		for _, c := range d[8*i : 8*i+8] {
			s[i] = 2*s[i] + byte(c-'0')
		}
	}
	return string(s)
}

// inDigits are bytes as digits.
func inDigits(s string) string {
	var b strings.Builder
	for i := range len(s) {
		fmt.Fprintf(&b, "%08b", s[i])
	}
	return b.String()
}

func wordsRect(l []int) string {
	return inBytes(widthAndDigits(5, wordsWidth(l...), l...), "0")
}

func wordsMatrix(l []int) string {
	a, b, c, d, x, y := l[0], l[1], l[2], l[3], l[4], l[5]
	scale, turn := "0", "0"
	if a != 65536 || d != 65536 {
		scale = "1" + widthAndDigits(5, wordsWidth(a, d), a, d)
	}
	if b != 0 || c != 0 {
		turn = "1" + widthAndDigits(5, wordsWidth(b, c), b, c)
	}
	return inBytes(scale+turn+widthAndDigits(5, wordsWidth(x, y), x, y), "0")
}

func wordsCx(l []int) string {
	adds, muls := "0", "0"
	var told []int
	for _, v := range l[:4] {
		if v != 256 {
			muls = "1"
		}
	}
	for _, v := range l[4:] {
		if v != 0 {
			adds = "1"
		}
	}
	if muls == "1" {
		told = append(told, l[:4]...)
	}
	if adds == "1" {
		told = append(told, l[4:]...)
	}
	return inBytes(adds+muls+widthAndDigits(4, wordsWidth(told...), told...), "0")
}

func wordsRGBA(l []int) string {
	return string([]byte{byte(l[0]), byte(l[1]), byte(l[2]), byte(l[3])})
}

// strip is digits that are torn off one field after another; short is told once they don't reach.
type strip struct {
	digits string
	torn   int
	short  bool
}

func (s *strip) tear(n int) string {
	if s.short || n > len(s.digits)-s.torn {
		s.short = true
		return strings.Repeat("0", n)
	}
	s.torn += n
	return s.digits[s.torn-n : s.torn]
}

func (s *strip) plain(n int) int {
	v := 0
	for _, c := range s.tear(n) {
		v = 2*v + int(c-'0')
	}
	return v
}

func (s *strip) signed(n int, count int) []int {
	l := make([]int, count)
	for i := range l {
		d := s.tear(n)
		for k, c := range d {
			l[i] = 2*l[i] + int(c-'0')
			if k == 0 {
				l[i] = -l[i]
			}
		}
	}
	return l
}

func wordsTakeRect(s *strip) []int {
	return s.signed(s.plain(5), 4)
}

func wordsTakeMatrix(s *strip) []int {
	ad, bc := []int{65536, 65536}, []int{0, 0}
	if s.tear(1) == "1" {
		ad = s.signed(s.plain(5), 2)
	}
	if s.tear(1) == "1" {
		bc = s.signed(s.plain(5), 2)
	}
	xy := s.signed(s.plain(5), 2)
	return []int{ad[0], bc[0], bc[1], ad[1], xy[0], xy[1]}
}

func wordsTakeCx(s *strip) []int {
	muls, adds := []int{256, 256, 256, 256}, []int{0, 0, 0, 0}
	told := s.tear(2)
	n := s.plain(4)
	if told[1] == '1' {
		muls = s.signed(n, 4)
	}
	if told[0] == '1' {
		adds = s.signed(n, 4)
	}
	return append(muls, adds...)
}

func wordsTakeRGBA(s *strip) []int {
	return []int{s.plain(8), s.plain(8), s.plain(8), s.plain(8)}
}
