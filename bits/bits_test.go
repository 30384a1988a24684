package bits

import (
	"fmt"
	"math"
	"math/big"
	"slices"
	"strings"
	"testing"

	"celluloid/api"
)

const (
	most  = math.MaxInt64
	least = math.MinInt64
)

// taken is what a call that reads a number tells.
type taken struct {
	v int
	r Reader
	e api.Errno
}

func took(v int, r Reader, e api.Errno) taken { return taken{v, r, e} }

// piece is what a call that reads bytes tells.
type piece struct {
	s string
	r Reader
	e api.Errno
}

func cut(s string, r Reader, e api.Errno) piece { return piece{s, r, e} }

// laid is what a call that writes tells.
type laid struct {
	w Writer
	e api.Errno
}

func lay(w Writer, e api.Errno) laid { return laid{w, e} }

func expect[T comparable](t *testing.T, got T, want T, call string, args ...any) {
	t.Helper()
	if got != want {
		t.Errorf("%s%#v = %#v, want %#v", call, args, got, want)
	}
}

// digits are the bits of bytes as a text, so that a text's ways tell what the layer must, not a number's.
func digits(s string) string {
	var b strings.Builder
	for i := range len(s) {
		fmt.Fprintf(&b, "%08b", s[i])
	}
	return b.String()
}

// packed is the writer of digits.
func packed(d string) Writer {
	free := (8 - len(d)%8) % 8
	d += strings.Repeat("0", free)
	s := make([]byte, len(d)/8)
	for i := range s {
		s[i] = byte(valued(d[8*i : 8*i+8]))
	}
	return Writer{string(s), free}
}

// valued is the number of digits, the highest first.
func valued(d string) int {
	v := 0
	for i := range len(d) {
		v = 2*v + int(d[i]-'0')
	}
	return v
}

// field is v in n digits; one below 0 is told by 2^n more.
func field(v int, n int) string {
	if v < 0 {
		v += 1 << n
	}
	if n == 0 {
		return ""
	}
	return fmt.Sprintf("%0*b", n, v)
}

// scattered numbers of all sizes, always the same ones.
func scattered(count int) []int {
	l := make([]int, 0, count)
	x := uint64(0x9E3779B97F4A7C15)
	for i := range count {
		x ^= x << 13
		x ^= x >> 7
		x ^= x << 17
		l = append(l, int(x)>>(i*7%64))
	}
	return l
}

// motley is a text of bytes with all kinds of bits.
func motley(count int) string {
	s := make([]byte, count)
	for i, v := range scattered(8 * count) {
		s[i/8] ^= byte(v)
	}
	return string(s)
}

// edges are the numbers where widths turn.
func edges() []int {
	l := []int{most, most - 1, least, least + 1}
	for k := range 63 {
		for d := -2; d <= 2; d++ {
			l = append(l, 1<<k+d, -1<<k+d)
		}
	}
	return l
}

// wrong are the numbers of bits or bytes, or places, that nothing has.
func wrong() []int {
	return []int{-1, -2, -8, -31, -64, least, least + 1, most, most - 7, 1 << 62, 1 << 32}
}

// notRight are readers whose At is beyond their bits.
func notRight() []Reader {
	l := []Reader{{"", 1}, {"", 8}, {"a", 9}, {"a", 16}, {"abcd", 33}, {"abcd", -1}}
	for _, at := range wrong() {
		l = append(l, Reader{"", at}, Reader{"abcdefgh", at})
	}
	return l
}

// P2.1: Plain, by hand.
func TestPlain(t *testing.T) {
	const s = "\xb8\x01\x02\x03\xff"
	for _, c := range []struct{ at, n, want int }{
		{0, 3, 5}, {3, 2, 3}, {5, 3, 0}, {0, 8, 0xb8}, {0, 16, 0xb801}, {4, 8, 0x80},
		{7, 2, 0}, {15, 1, 1}, {0, 0, 0}, {3, 0, 0}, {40, 0, 0}, {0, 31, 0xb8010203 >> 1},
		{1, 31, 0x38010203}, {9, 31, 0x010203ff}, {7, 31, 0x010203<<6 | 63}, {39, 1, 1}, {32, 8, 255},
	} {
		expect(t, took(Plain(Reader{s, c.at}, c.n)), taken{c.want, Reader{s, c.at + c.n}, api.OK}, "Plain", c.at, c.n)
	}
	expect(t, took(Plain(Reader{}, 0)), taken{}, "Plain", Reader{}, 0)
	expect(t, took(Plain(Reader{}, 1)), taken{e: api.ErrShort}, "Plain", Reader{}, 1)
}

// P2.1: Signed, by hand: a first bit that is 1 makes it 2^n less.
func TestSigned(t *testing.T) {
	const s = "\xb8\x01\x7f\xff\xff\xff\xff"
	for _, c := range []struct{ at, n, want int }{
		{0, 1, -1}, {1, 1, 0}, {0, 2, -2}, {3, 2, -1}, {1, 2, 1}, {0, 8, -72}, {8, 8, 1},
		{0, 0, 0}, {2, 0, 0}, {56, 0, 0}, {16, 31, 1<<30 - 1}, {17, 31, -1}, {0, 31, 0xb8017fff>>1 - 1<<31},
	} {
		expect(t, took(Signed(Reader{s, c.at}, c.n)), taken{c.want, Reader{s, c.at + c.n}, api.OK}, "Signed", c.at, c.n)
	}
	lowest := "\x80\x00\x00\x00"
	expect(t, took(Signed(Reader{lowest, 0}, 31)), taken{-1 << 30, Reader{lowest, 31}, api.OK}, "Signed", lowest, 31)
}

// P2.1: each place and width of some bytes, against their digits; too few bits are ErrShort, and at no other place.
func TestFieldsEverywhere(t *testing.T) {
	s := motley(12)
	d := digits(s)
	for at := range len(d) + 1 {
		for n := range api.MaxBits + 1 {
			r := Reader{s, at}
			if at+n > len(d) {
				expect(t, took(Plain(r, n)), taken{e: api.ErrShort}, "Plain", at, n)
				expect(t, took(Signed(r, n)), taken{e: api.ErrShort}, "Signed", at, n)
				continue
			}
			next := Reader{s, at + n}
			v := valued(d[at : at+n])
			expect(t, took(Plain(r, n)), taken{v, next, api.OK}, "Plain", at, n)
			if n > 0 && d[at] == '1' {
				v -= 1 << n
			}
			expect(t, took(Signed(r, n)), taken{v, next, api.OK}, "Signed", at, n)
		}
	}
}

// P2.1, R2: widths outside of 0 to 31 are ErrArg, ahead of ErrShort, and the rest is zero.
func TestWidthsThatNoFieldHas(t *testing.T) {
	for _, r := range []Reader{{}, {"ab", 0}, {"ab", 16}, {motley(20), 3}} {
		for _, n := range append(wrong(), 32, 33, 63, 64, 65) {
			expect(t, took(Plain(r, n)), taken{e: api.ErrArg}, "Plain", r, n)
			expect(t, took(Signed(r, n)), taken{e: api.ErrArg}, "Signed", r, n)
		}
	}
}

// P2.1, R2: a reader that is not right is ErrArg, ahead of ErrShort, even where nothing is read; Align leaves it.
func TestReadersThatAreNotRight(t *testing.T) {
	for _, r := range notRight() {
		for n := range api.MaxBits + 1 {
			expect(t, took(Plain(r, n)), taken{e: api.ErrArg}, "Plain", r, n)
			expect(t, took(Signed(r, n)), taken{e: api.ErrArg}, "Signed", r, n)
			expect(t, cut(Bytes(r, n)), piece{e: api.ErrArg}, "Bytes", r, n)
			expect(t, took(Little(r, n)), taken{e: api.ErrArg}, "Little", r, n)
		}
		for _, n := range wrong() {
			expect(t, took(Plain(r, n)), taken{e: api.ErrArg}, "Plain", r, n)
			expect(t, took(Signed(r, n)), taken{e: api.ErrArg}, "Signed", r, n)
			expect(t, cut(Bytes(r, n)), piece{e: api.ErrArg}, "Bytes", r, n)
			expect(t, took(Little(r, n)), taken{e: api.ErrArg}, "Little", r, n)
		}
		expect(t, Align(r), r, "Align", r)
	}
}

// P2.1: Align raises At to a multiple of 8, and leaves one.
func TestAlign(t *testing.T) {
	for at, want := range []int{0, 8, 8, 8, 8, 8, 8, 8, 8, 16, 16, 16, 16, 16, 16, 16, 16, 24, 24, 24, 24, 24, 24, 24, 24} {
		expect(t, Align(Reader{"abc", at}), Reader{"abc", want}, "Align", at)
	}
	expect(t, Align(Reader{}), Reader{}, "Align", Reader{})
}

// P2.1: Bytes from every place, and Little of them; too few are ErrShort.
func TestBytesAndLittle(t *testing.T) {
	s := motley(9)
	for at := range 8*len(s) + 1 {
		r := Reader{s, at}
		from := (at + 7) / 8
		for n := range 12 {
			if from+n > len(s) {
				expect(t, cut(Bytes(r, n)), piece{e: api.ErrShort}, "Bytes", at, n)
			} else {
				expect(t, cut(Bytes(r, n)), piece{s[from : from+n], Reader{s, 8 * (from + n)}, api.OK}, "Bytes", at, n)
			}
		}
		for n := 1; n <= 4; n++ {
			if from+n > len(s) {
				expect(t, took(Little(r, n)), taken{e: api.ErrShort}, "Little", at, n)
				continue
			}
			low := []byte(s[from : from+n])
			slices.Reverse(low)
			v := int(new(big.Int).SetBytes(low).Int64())
			expect(t, took(Little(r, n)), taken{v, Reader{s, 8 * (from + n)}, api.OK}, "Little", at, n)
		}
	}
}

// P2.1: by hand: the first byte is the lowest, and the highest of four is no sign; the bytes may be of any kind.
func TestLittleByHand(t *testing.T) {
	const s = "\x01\x02\x03\xff\x00"
	for n, want := range []int{1: 1, 2: 0x0201, 3: 0x030201, 4: 0xff030201} {
		if n > 0 {
			expect(t, took(Little(Reader{s, 0}, n)), taken{want, Reader{s, 8 * n}, api.OK}, "Little", n)
		}
	}
	expect(t, took(Little(Reader{s, 1}, 4)), taken{0x00ff0302, Reader{s, 40}, api.OK}, "Little", 1, 4)
	expect(t, took(Little(Reader{s, 9}, 4)), taken{e: api.ErrShort}, "Little", 9, 4)
	expect(t, cut(Bytes(Reader{s, 25}, 0)), piece{"", Reader{s, 32}, api.OK}, "Bytes", 25, 0)
	expect(t, cut(Bytes(Reader{"", 0}, 0)), piece{"", Reader{}, api.OK}, "Bytes", 0, 0)
	expect(t, cut(Bytes(Reader{"", 0}, 1)), piece{e: api.ErrShort}, "Bytes", 0, 1)
}

// P2.1, R2: of how many bytes there is nothing; a number of bytes from 0 on that is too great is ErrShort.
func TestBytesThatNobodyHas(t *testing.T) {
	for _, r := range []Reader{{}, {"abc", 0}, {"abc", 5}, {"abc", 24}} {
		for _, n := range wrong() {
			want := api.ErrArg
			if n > 0 {
				want = api.ErrShort
			}
			expect(t, cut(Bytes(r, n)), piece{e: want}, "Bytes", r, n)
			expect(t, took(Little(r, n)), taken{e: api.ErrArg}, "Little", r, n)
		}
		for _, n := range []int{0, 5, 6, 8, 64} {
			expect(t, took(Little(r, n)), taken{e: api.ErrArg}, "Little", r, n)
		}
	}
	expect(t, took(Little(Reader{"abcdefgh", 0}, 5)), taken{e: api.ErrArg}, "Little", 5)
	expect(t, took(Little(Reader{"abcdefgh", 0}, 0)), taken{e: api.ErrArg}, "Little", 0)
}

// P2.2: by hand, and the chapter's example.
func TestPutByHand(t *testing.T) {
	w, e := PutPlain(Writer{}, 5, 3)
	expect(t, lay(w, e), laid{Writer{"\xa0", 5}, api.OK}, "PutPlain", 5, 3)
	w, e = PutSigned(w, -1, 2)
	expect(t, lay(w, e), laid{Writer{"\xb8", 3}, api.OK}, "PutSigned", -1, 2)
	expect(t, lay(PutPlain(w, 7, 3)), laid{Writer{"\xbf", 0}, api.OK}, "PutPlain", w, 7, 3)
	expect(t, lay(PutPlain(w, 1, 4)), laid{Writer{"\xb8\x80", 7}, api.OK}, "PutPlain", w, 1, 4)
	expect(t, lay(PutPlain(w, 0, 0)), laid{w, api.OK}, "PutPlain", w, 0, 0)
	expect(t, lay(PutSigned(w, 0, 0)), laid{w, api.OK}, "PutSigned", w, 0, 0)
	expect(t, lay(PutPlain(w, 1<<31-1, 31)), laid{Writer{"\xbf\xff\xff\xff\xf0", 4}, api.OK}, "PutPlain", w, 1<<31-1, 31)
	expect(t, lay(PutSigned(w, -1<<30, 31)), laid{Writer{"\xbc\x00\x00\x00\x00", 4}, api.OK}, "PutSigned", w, -1<<30, 31)
	expect(t, PutAlign(w), Writer{"\xb8", 0}, "PutAlign", w)
	expect(t, PutBytes(w, "\x01\x02"), Writer{"\xb8\x01\x02", 0}, "PutBytes", w)
	expect(t, PutBytes(w, ""), Writer{"\xb8", 0}, "PutBytes", w)
	expect(t, lay(PutLittle(w, 0x0201, 2)), laid{Writer{"\xb8\x01\x02", 0}, api.OK}, "PutLittle", w, 0x0201, 2)
	expect(t, lay(PutLittle(w, 1<<32-2, 4)), laid{Writer{"\xb8\xfe\xff\xff\xff", 0}, api.OK}, "PutLittle", w, 1<<32-2, 4)
	expect(t, lay(PutLittle(Writer{}, 0, 3)), laid{Writer{"\x00\x00\x00", 0}, api.OK}, "PutLittle", 0, 3)
	expect(t, lay(PutPlain(Writer{}, 0, 0)), laid{Writer{}, api.OK}, "PutPlain", 0, 0)
	expect(t, PutAlign(Writer{}), Writer{}, "PutAlign")
	expect(t, PutBytes(Writer{}, ""), Writer{}, "PutBytes")
}

// fitting are numbers from 0 on that fit n bits: the ends, and some between.
func fitting(n int) []int {
	l := []int{0, 1<<n - 1}
	for _, v := range scattered(9) {
		l = append(l, v&(1<<n-1))
	}
	return l
}

// P2.2: behind every number of bits, every width, against digits.
func TestPutEverywhere(t *testing.T) {
	d := digits(motley(3))
	for had := range len(d) + 1 {
		w := packed(d[:had])
		for n := range api.MaxBits + 1 {
			for _, v := range fitting(n) {
				want := laid{packed(d[:had] + field(v, n)), api.OK}
				expect(t, lay(PutPlain(w, v, n)), want, "PutPlain", w, v, n)
				if n > 0 && v >= 1<<(n-1) {
					v -= 1 << n
				}
				expect(t, lay(PutSigned(w, v, n)), want, "PutSigned", w, v, n)
			}
		}
		expect(t, PutAlign(w), Writer{w.S, 0}, "PutAlign", w)
		expect(t, PutBytes(w, "a\x00\xff"), Writer{w.S + "a\x00\xff", 0}, "PutBytes", w)
		expect(t, lay(PutLittle(w, 0x00ff61, 3)), laid{Writer{w.S + "a\xff\x00", 0}, api.OK}, "PutLittle", w)
	}
}

// P2.2, R2: numbers that do not fit their width are ErrArg; those beside them fit.
func TestPutWhatDoesNotFit(t *testing.T) {
	refused := laid{e: api.ErrArg}
	w := Writer{"\xb8", 3}
	for n := range api.MaxBits + 1 {
		for _, v := range append(edges(), scattered(64)...) {
			plain := v >= 0 && v < 1<<n
			if got := lay(PutPlain(w, v, n)); (got.e == api.OK) != plain || !plain && got != refused {
				t.Errorf("PutPlain(%d, %d) = %#v", v, n, got)
			}
			signed := v == 0 || n > 0 && v >= -1<<(n-1) && v < 1<<(n-1)
			if got := lay(PutSigned(w, v, n)); (got.e == api.OK) != signed || !signed && got != refused {
				t.Errorf("PutSigned(%d, %d) = %#v", v, n, got)
			}
		}
	}
	for n := 1; n <= 4; n++ {
		for _, v := range append(edges(), scattered(64)...) {
			fits := v >= 0 && v < 1<<(8*n)
			if got := lay(PutLittle(w, v, n)); (got.e == api.OK) != fits || !fits && got != refused {
				t.Errorf("PutLittle(%d, %d) = %#v", v, n, got)
			}
		}
	}
}

// P2.2, R2: widths outside of 0 to 31, and bytes outside of 1 to 4, are ErrArg whatever the number is.
func TestPutWidthsThatNothingHas(t *testing.T) {
	refused := laid{e: api.ErrArg}
	for _, w := range []Writer{{}, {"\xb8", 3}, {"\xff", 9}} {
		for _, v := range []int{0, 1, -1, 200, most, least} {
			for _, n := range append(wrong(), 32, 33, 63, 64, 65) {
				expect(t, lay(PutPlain(w, v, n)), refused, "PutPlain", w, v, n)
				expect(t, lay(PutSigned(w, v, n)), refused, "PutSigned", w, v, n)
				expect(t, lay(PutLittle(w, v, n)), refused, "PutLittle", w, v, n)
			}
			for _, n := range []int{0, 5, 7, 8, 31} {
				expect(t, lay(PutLittle(w, v, n)), refused, "PutLittle", w, v, n)
			}
		}
	}
}

// P2.2: a writer that is not as the chapter says is taken as one whose Free is 0.
func TestWritersThatAreNotSound(t *testing.T) {
	l := []Writer{{"", 1}, {"", 7}, {"\x01", 1}, {"\x80\x40", 7}, {"\xff", 7}, {"\x04", 3}, {"\x00", 8}, {"\x00\x00", 9}}
	for _, free := range wrong() {
		l = append(l, Writer{"", free}, Writer{"\x00", free}, Writer{"\xff\x00", free})
	}
	for _, w := range l {
		whole := Writer{w.S, 0}
		for n := range api.MaxBits + 1 {
			for _, v := range fitting(n) {
				want := laid{packed(digits(w.S) + field(v, n)), api.OK}
				expect(t, lay(PutPlain(w, v, n)), want, "PutPlain", w, v, n)
			}
		}
		expect(t, lay(PutSigned(w, 0, 0)), laid{whole, api.OK}, "PutSigned", w, 0, 0)
		expect(t, lay(PutSigned(w, -2, 3)), laid{Writer{w.S + "\xc0", 5}, api.OK}, "PutSigned", w, -2, 3)
		expect(t, PutAlign(w), whole, "PutAlign", w)
		expect(t, PutBytes(w, "ab"), Writer{w.S + "ab", 0}, "PutBytes", w)
		expect(t, lay(PutLittle(w, 0x6261, 2)), laid{Writer{w.S + "ab", 0}, api.OK}, "PutLittle", w)
		expect(t, lay(PutPlain(w, 2, 1)), laid{e: api.ErrArg}, "PutPlain", w, 2, 1)
	}
	// Bits above the free ones may be of any kind: these writers are sound.
	for free := 1; free <= 7; free++ {
		w := Writer{"a" + string([]byte{byte(255 << free)}), free}
		expect(t, lay(PutPlain(w, 1<<free-1, free)), laid{Writer{"a\xff", 0}, api.OK}, "PutPlain", w)
	}
}

// P2.3: widths by hand, and none.
func TestWidths(t *testing.T) {
	for _, c := range []struct{ v, width, plain int }{
		{0, 0, 0}, {1, 2, 1}, {-1, 1, 0}, {2, 3, 2}, {-2, 2, 0}, {3, 3, 2}, {-3, 3, 0}, {4, 4, 3}, {-4, 3, 0}, {-5, 4, 0},
		{127, 8, 7}, {128, 9, 8}, {-128, 8, 0}, {-129, 9, 0}, {1<<30 - 1, 31, 30}, {1 << 30, 32, 31}, {-1 << 30, 31, 0},
		{1<<31 - 1, 32, 31}, {1 << 31, 33, 32}, {most, 64, 63}, {least, 64, 0}, {least + 1, 64, 0}, {1 << 62, 64, 63}, {-1 << 62, 63, 0},
	} {
		expect(t, Width(c.v), c.width, "Width", c.v)
		expect(t, PlainWidth(c.v), c.plain, "PlainWidth", c.v)
	}
	expect(t, Width(), 0, "Width")
	expect(t, PlainWidth(), 0, "PlainWidth")
	expect(t, Width([]int{}...), 0, "Width")
	expect(t, PlainWidth([]int{}...), 0, "PlainWidth")
	expect(t, Width([]int(nil)...), 0, "Width")
	expect(t, PlainWidth([]int(nil)...), 0, "PlainWidth")
}

// leastWidth goes through the widths from 0 on, by the chapter's words (doubled, as half of 1 is none).
func leastWidth(v int) int {
	twice := new(big.Int).Mul(big.NewInt(2), big.NewInt(int64(v)))
	for n := uint(0); ; n++ {
		bound := new(big.Int).Lsh(big.NewInt(1), n)
		if v < 0 && twice.Cmp(new(big.Int).Neg(bound)) >= 0 || v >= 0 && twice.Cmp(bound) < 0 {
			return int(n)
		}
	}
}

// leastPlainWidth likewise.
func leastPlainWidth(v int) int {
	for n := uint(0); ; n++ {
		if big.NewInt(int64(v)).Cmp(new(big.Int).Lsh(big.NewInt(1), n)) < 0 {
			return int(n)
		}
	}
}

// P2.3: widths by the chapter's words, of one number and of several in every order; what is handed in stays.
func TestGreatestWidths(t *testing.T) {
	l := append(edges(), scattered(200)...)
	for i, a := range l {
		expect(t, Width(a), leastWidth(a), "Width", a)
		expect(t, PlainWidth(a), leastPlainWidth(a), "PlainWidth", a)
		b, c := l[(i*7+3)%len(l)], l[(i*13+5)%len(l)]
		for _, some := range [][]int{{a, b, c}, {c, a, b}, {b, c, a}, {a, a}, {0, a, 0}} {
			kept := slices.Clone(some)
			signed, plain := 0, 0
			for _, v := range some {
				signed, plain = max(signed, leastWidth(v)), max(plain, leastPlainWidth(v))
			}
			expect(t, Width(some...), signed, "Width", some)
			expect(t, PlainWidth(some...), plain, "PlainWidth", some)
			if !slices.Equal(some, kept) {
				t.Errorf("a list was changed: %v, was %v", some, kept)
			}
		}
	}
	expect(t, Width(1, -9, 3), 5, "Width", 1, -9, 3)
	expect(t, Width(-9, -300, -1), 10, "Width", -9, -300, -1)
	expect(t, PlainWidth(7, 8), 4, "PlainWidth", 7, 8)
	expect(t, PlainWidth(-1000, 3, -5), 2, "PlainWidth", -1000, 3, -5)
	expect(t, PlainWidth(-1000, -3), 0, "PlainWidth", -1000, -3)
}

// step writes one thing behind a writer, and reads it back behind a reader.
type step struct {
	write func(Writer) (Writer, api.Errno)
	read  func(Reader) (any, Reader, api.Errno)
	want  any
}

func plainStep(v int, n int) step {
	return step{
		func(w Writer) (Writer, api.Errno) { return PutPlain(w, v, n) },
		func(r Reader) (any, Reader, api.Errno) { return anyOf(Plain(r, n)) },
		v,
	}
}

func signedStep(v int, n int) step {
	return step{
		func(w Writer) (Writer, api.Errno) { return PutSigned(w, v, n) },
		func(r Reader) (any, Reader, api.Errno) { return anyOf(Signed(r, n)) },
		v,
	}
}

func littleStep(v int, n int) step {
	return step{
		func(w Writer) (Writer, api.Errno) { return PutLittle(w, v, n) },
		func(r Reader) (any, Reader, api.Errno) { return anyOf(Little(r, n)) },
		v,
	}
}

func bytesStep(s string) step {
	return step{
		func(w Writer) (Writer, api.Errno) { return PutBytes(w, s), api.OK },
		func(r Reader) (any, Reader, api.Errno) { return anyOf(Bytes(r, len(s))) },
		s,
	}
}

func alignStep() step {
	return step{
		func(w Writer) (Writer, api.Errno) { return PutAlign(w), api.OK },
		func(r Reader) (any, Reader, api.Errno) { return nil, Align(r), api.OK },
		nil,
	}
}

func anyOf[T any](v T, r Reader, e api.Errno) (any, Reader, api.Errno) { return v, r, e }

// steps are of all kinds, in widths from the least that fits up to the greatest.
func steps(count int) []step {
	var l []step
	for i, x := range scattered(count) {
		v := x << 33 >> 33 >> (i % 31)
		switch x >> 3 & 7 {
		case 0:
			l = append(l, littleStep(x&(1<<(8*(i%4+1))-1), i%4+1))
		case 1:
			l = append(l, bytesStep(motley(i%6)))
		case 2:
			l = append(l, alignStep())
		case 3, 4:
			v &= math.MaxInt32
			l = append(l, plainStep(v, min(PlainWidth(v)+i%3, api.MaxBits)))
		default:
			l = append(l, signedStep(v/2, min(Width(v/2)+i%3, api.MaxBits)))
		}
	}
	return l
}

// P2.3, P2: things of all kinds, written one behind another, are read back, and then just the free bits are left.
func TestWrittenReadBack(t *testing.T) {
	l := steps(3000)
	w := Writer{}
	for i, s := range l {
		next, e := s.write(w)
		if e != api.OK {
			t.Fatalf("%d: %#v was refused: %d", i, s.want, e)
		}
		if again, e := s.write(w); again != next || e != api.OK {
			t.Fatalf("%d: a second call wrote otherwise", i)
		}
		w = next
	}
	r := Reader{w.S, 0}
	for i, s := range l {
		v, next, e := s.read(r)
		if v != s.want || e != api.OK {
			t.Fatalf("%d: read %#v, %d, want %#v", i, v, e, s.want)
		}
		r = next
	}
	expect(t, r, Reader{w.S, 8*len(w.S) - w.Free}, "the reader behind all")
}

// P2.3, P2: every number of few bits is read back in its least width and in each above it, and in none below.
func TestLeastWidthsReadBack(t *testing.T) {
	for v := -300; v <= 300; v++ {
		for n := range 12 {
			w, e := PutSigned(Writer{"\xe0", 5}, v, n)
			if (e == api.OK) != (n >= Width(v)) {
				t.Errorf("PutSigned(%d, %d): %d", v, n, e)
			}
			if e == api.OK {
				expect(t, took(Signed(Reader{w.S, 3}, n)), taken{v, Reader{w.S, 3 + n}, api.OK}, "Signed", v, n)
			}
			w, e = PutPlain(Writer{"\xe0", 5}, v, n)
			if (e == api.OK) != (v >= 0 && n >= PlainWidth(v)) {
				t.Errorf("PutPlain(%d, %d): %d", v, n, e)
			}
			if e == api.OK {
				expect(t, took(Plain(Reader{w.S, 3}, n)), taken{v, Reader{w.S, 3 + n}, api.OK}, "Plain", v, n)
			}
		}
	}
}

// P2, R1: what is read of any bytes, in fields of any widths, and written, is the same bytes.
func TestReadWrittenBack(t *testing.T) {
	s := motley(400)
	for first := range 40 {
		r, w := Reader{s, 0}, Writer{}
		for i := first; r.At < 8*len(s); i++ {
			n := min(i*11%32, 8*len(s)-r.At)
			var v int
			var e, f api.Errno
			if i%2 == 0 {
				v, r, e = Plain(r, n)
				w, f = PutPlain(w, v, n)
			} else {
				v, r, e = Signed(r, n)
				w, f = PutSigned(w, v, n)
			}
			if e != api.OK || f != api.OK {
				t.Fatalf("field %d of %d bits: %d, %d", i, n, e, f)
			}
		}
		expect(t, w, Writer{s, 0}, "what was read", first)
	}
}
