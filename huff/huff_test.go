package huff

import (
	"fmt"
	"math"
	"slices"
	"strings"
	"testing"

	"celluloid/api"
)

const (
	most  = math.MaxInt64
	least = math.MinInt64
)

// read is what a call that takes bits tells.
type read struct {
	v  int
	at int
	e  api.Errno
}

func took(v int, at int, e api.Errno) read { return read{v, at, e} }

// bit is what Bit tells.
type bit struct {
	v  int
	ok bool
}

func single(v int, ok bool) bit { return bit{v, ok} }

func expect[T comparable](t *testing.T, got T, want T, call string, args ...any) {
	t.Helper()
	if got != want {
		t.Errorf("%s%#v = %#v, want %#v", call, args, got, want)
	}
}

// expectBoth holds New and Codes to one error, and all else to zero beside it.
func expectBoth(t *testing.T, lengths []int, want api.Errno) {
	t.Helper()
	table, e := New(lengths)
	expect(t, e, want, "New", lengths)
	codes, f := Codes(lengths)
	expect(t, f, want, "Codes", lengths)
	if want == api.OK {
		expect(t, len(codes), len(lengths), "the number of Codes", lengths)
		return
	}
	expect(t, len(codes), 0, "the number of Codes", lengths)
	expect(t, table.counts, byLength{}, "New", lengths)
	expect(t, len(table.symbols), 0, "New", lengths)
}

func expectCodes(t *testing.T, lengths []int, want []int) {
	t.Helper()
	codes, e := Codes(lengths)
	if e != api.OK || !slices.Equal(codes, want) {
		t.Errorf("Codes(%v) = %v, %d, want %v", lengths, codes, e, want)
	}
}

func made(t *testing.T, lengths []int) Table {
	t.Helper()
	table, e := New(lengths)
	if e != api.OK {
		t.Fatalf("New(%v) = %d", lengths, e)
	}
	return table
}

// digits are the bits of bytes as a text, the lowest of each byte first, so that a text's ways tell what the layer must.
func digits(s string) string {
	var b strings.Builder
	for i := range len(s) {
		for k := range 8 {
			b.WriteByte('0' + s[i]>>k&1)
		}
	}
	return b.String()
}

// packed are the bytes of digits; the last one's bits that are left are 0.
func packed(d string) string {
	s := make([]byte, (len(d)+7)/8)
	for i := range len(d) {
		s[i/8] |= (d[i] - '0') << (i % 8)
	}
	return string(s)
}

// spelled are the codes by the chapter's words, as texts whose first digit is the highest; "" of a symbol that has none.
func spelled(lengths []int) []string {
	texts := make([]string, len(lengths))
	code := 0
	for n := 1; n <= 15; n++ {
		code *= 2
		for symbol, length := range lengths {
			if length == n {
				texts[symbol] = fmt.Sprintf("%0*b", n, code)
				code++
			}
		}
	}
	return texts
}

// found is what Next must tell of texts of codes: bit by bit, a code, or that none begins so, or that the bits end.
func found(texts []string, d string, at int) read {
	if at < 0 {
		return read{e: api.ErrArg}
	}
	left := d[min(at, len(d)):]
	for n := range len(left) + 1 {
		begins := false
		for symbol, text := range texts {
			if text != "" && text == left[:n] {
				return read{symbol, at + n, api.OK}
			}
			begins = begins || text != "" && strings.HasPrefix(text, left[:n])
		}
		if !begins {
			return read{e: api.ErrCode}
		}
	}
	return read{e: api.ErrShort}
}

// summed is the chapter's sum over all codes, and how many there are.
func summed(lengths []int) (int, int) {
	sum, count := 0, 0
	for _, n := range lengths {
		if n > 0 {
			sum += 1 << 15 >> n
			count++
		}
	}
	return sum, count
}

// permitted is the error that at most 320 lengths from 0 to 15 must have.
func permitted(lengths []int) api.Errno {
	sum, count := summed(lengths)
	if count == 0 || sum == 1<<15 || count == 1 && slices.Contains(lengths, 1) {
		return api.OK
	}
	return api.ErrCode
}

// source makes numbers that are always the same ones.
type source uint64

func (x *source) below(n int) int {
	*x ^= *x << 13
	*x ^= *x >> 7
	*x ^= *x << 17
	return int(uint64(*x) >> 11 % uint64(n))
}

// motley is a text of bytes with all kinds of bits.
func motley(x *source, count int) string {
	s := make([]byte, count)
	for i := range s {
		s[i] = byte(x.below(256))
	}
	return string(s)
}

// grown are full lengths of so many codes, from 2 on, and some symbols without any between them.
func grown(x *source, codes int, none int) []int {
	l := []int{1, 1}
	for len(l) < codes {
		// A code that becomes two of one bit more leaves the sum as it is.
		if i := x.below(len(l)); l[i] < 15 {
			l[i]++
			l = append(l, l[i])
		}
	}
	for range none {
		l = slices.Insert(l, x.below(len(l)+1), 0)
	}
	return l
}

// stairs are codes of all lengths from 1 to most, the last one twice.
func stairs(most int) []int {
	var l []int
	for n := 1; n <= most; n++ {
		l = append(l, n)
	}
	return append(l, most)
}

// repeated is one length, so many times.
func repeated(n int, count int) []int {
	return slices.Repeat([]int{n}, count)
}

// fixed are the lengths of RFC 1951's fixed codes.
func fixed() []int {
	return slices.Concat(repeated(8, 144), repeated(9, 112), repeated(7, 24), repeated(8, 8))
}

// tables are lengths of all kinds that may be one.
func tables() [][]int {
	l := [][]int{
		nil, {}, {0}, {0, 0, 0}, repeated(0, 320),
		{1}, {0, 1}, {1, 0}, {0, 0, 1, 0}, append(repeated(0, 319), 1), append([]int{1}, repeated(0, 319)...),
		{1, 1}, {0, 1, 0, 1, 0}, {1, 2, 2}, {2, 1, 2}, {2, 2, 1}, {2, 2, 2, 2}, {3, 3, 3, 3, 3, 2, 4, 4}, {2, 1, 3, 3},
		fixed(), repeated(5, 32), repeated(8, 256),
		stairs(15), append(stairs(15), repeated(0, 304)...), append(repeated(0, 304), stairs(15)...),
	}
	down := stairs(15)
	slices.Reverse(down)
	l = append(l, down)
	x := source(88172645463325252)
	for _, codes := range []int{2, 3, 5, 16, 19, 30, 100, 286, 320} {
		for _, none := range []int{0, 1, 40} {
			if codes+none <= 320 {
				l = append(l, grown(&x, codes, none))
			}
		}
	}
	return l
}

// wrong are numbers that are no place, no number of bits, and no length.
func wrong() []int {
	return []int{-1, -2, -8, -15, -16, -64, -1 << 32, least, least + 1}
}

// P4.1: codes by hand, with the chapter's example and that of RFC 1951.
func TestCodesByHand(t *testing.T) {
	expectCodes(t, []int{1, 2, 2}, []int{0, 2, 3})
	expectCodes(t, []int{2, 1, 2}, []int{2, 0, 3})
	expectCodes(t, []int{2, 2, 1}, []int{2, 3, 0})
	expectCodes(t, []int{3, 3, 3, 3, 3, 2, 4, 4}, []int{2, 3, 4, 5, 6, 0, 14, 15})
	expectCodes(t, []int{2, 1, 3, 3}, []int{2, 0, 6, 7})
	expectCodes(t, []int{1, 1}, []int{0, 1})
	expectCodes(t, []int{0, 1, 0, 0, 1, 0}, []int{0, 0, 0, 0, 1, 0})
	expectCodes(t, []int{0, 2, 0, 2, 2, 0, 2}, []int{0, 0, 0, 1, 2, 0, 3})
	expectCodes(t, []int{4, 4, 0, 3, 2, 1}, []int{14, 15, 0, 6, 2, 0})
}

// P4.1: the fixed codes of RFC 1951, as its section 3.2.6 writes them.
func TestFixedCodes(t *testing.T) {
	codes, e := Codes(fixed())
	if e != api.OK || len(codes) != 288 {
		t.Fatalf("Codes = %d codes, %d", len(codes), e)
	}
	for symbol, code := range codes {
		want := 0b00110000 + symbol
		switch {
		case symbol >= 280:
			want = 0b11000000 + symbol - 280
		case symbol >= 256:
			want = symbol - 256
		case symbol >= 144:
			want = 0b110010000 + symbol - 144
		}
		expect(t, code, want, "the code of", symbol)
	}
}

// P4.1: codes of all lengths up to 15 bits: each is all ones but for a last 0, and the last one all ones.
func TestCodesOfAllLengths(t *testing.T) {
	for longest := 1; longest <= 15; longest++ {
		var want []int
		for n := 1; n <= longest; n++ {
			want = append(want, 1<<n-2)
		}
		expectCodes(t, stairs(longest), append(want, 1<<longest-1))
	}
	// Of 15 bits alone there would be too many codes: 7 bits lead to 256 of them, beside one code of each shorter length.
	want := []int{0, 2, 6, 14, 30, 62, 126}
	for i := range 256 {
		want = append(want, 127<<8+i)
	}
	expectCodes(t, append(stairs(7)[:7], repeated(15, 256)...), want)
}

// P4.1: just one code, of length 1, may be a table wherever it stands; of another length it may not.
func TestOneCode(t *testing.T) {
	for _, count := range []int{1, 2, 5, 320} {
		for _, symbol := range []int{0, count / 2, count - 1} {
			l := repeated(0, count)
			l[symbol] = 1
			expectBoth(t, l, api.OK)
			expectCodes(t, l, repeated(0, count))
			for n := 2; n <= 15; n++ {
				l[symbol] = n
				expectBoth(t, l, api.ErrCode)
			}
		}
	}
}

// P4.1, R5: no code, and no lengths at all, may be a table.
func TestNoCode(t *testing.T) {
	for _, count := range []int{0, 1, 2, 19, 319, 320} {
		expectBoth(t, repeated(0, count), api.OK)
		expectCodes(t, repeated(0, count), repeated(0, count))
	}
	expectBoth(t, nil, api.OK)
	expectBoth(t, []int{}, api.OK)
	expect(t, took(Next(made(t, nil), "\x00", 0)), read{e: api.ErrCode}, "Next")
	expect(t, took(Next(made(t, []int{}), "\x00", 0)), read{e: api.ErrCode}, "Next")
}

// P4.1: 320 lengths may be a table; 321 are ErrArg, whatever they are.
func TestNumberOfLengths(t *testing.T) {
	x := source(7)
	full := grown(&x, 320, 0)
	expectBoth(t, full, api.OK)
	expectBoth(t, grown(&x, 300, 20), api.OK)
	expectBoth(t, repeated(9, 320), api.ErrCode)
	for _, count := range []int{321, 322, 400, 512, 70000} {
		expectBoth(t, append(slices.Clone(full), repeated(0, count-320)...), api.ErrArg)
		expectBoth(t, repeated(0, count), api.ErrArg)
		expectBoth(t, repeated(1, count), api.ErrArg)
		expectBoth(t, append([]int{1}, repeated(0, count-1)...), api.ErrArg)
		expectBoth(t, repeated(-1, count), api.ErrArg)
	}
	expectBoth(t, repeated(9, 512), api.ErrArg)
}

// P4.1, R2: a length below 0 or above 15 is ErrArg wherever it stands, ahead of ErrCode.
func TestLengthsThatNoCodeHas(t *testing.T) {
	for _, n := range append(wrong(), 16, 17, 31, 32, 63, 64, 65, 255, 256, 1<<32, 1<<32+1, most-1, most) {
		for _, l := range [][]int{{}, {0, 0}, {1}, {1, 1}, {1, 2, 2}, {1, 1, 1}, {2}, {2, 2}, stairs(15), repeated(8, 256)} {
			for _, at := range []int{0, len(l) / 2, len(l)} {
				expectBoth(t, slices.Insert(slices.Clone(l), at, n), api.ErrArg)
			}
		}
	}
	expectBoth(t, stairs(15), api.OK)
	expectBoth(t, []int{15}, api.ErrCode)
	expectBoth(t, []int{15, 15}, api.ErrCode)
}

// P4.1: full lengths may be a table; one more code is too many, one fewer too few, and so is any length that is another.
func TestTooManyTooFew(t *testing.T) {
	for _, l := range tables() {
		expectBoth(t, l, api.OK)
		if sum, _ := summed(l); sum != 1<<15 {
			continue
		}
		for n := 1; n <= 15 && len(l) < 320; n++ {
			expectBoth(t, append(slices.Clone(l), n), api.ErrCode)
		}
		for symbol, was := range l {
			for _, n := range []int{0, was - 1, was + 1, 1, 15} {
				other := slices.Clone(l)
				other[symbol] = min(max(n, 0), 15)
				expectBoth(t, other, permitted(other))
			}
		}
	}
	expectBoth(t, []int{1, 1, 1}, api.ErrCode)
	expectBoth(t, []int{1, 1, 15}, api.ErrCode)
	expectBoth(t, []int{1, 2}, api.ErrCode)
	expectBoth(t, []int{2, 2}, api.ErrCode)
	expectBoth(t, []int{2, 2, 2}, api.ErrCode)
	expectBoth(t, repeated(1, 4), api.ErrCode)
	expectBoth(t, repeated(1, 320), api.ErrCode)
	expectBoth(t, repeated(15, 320), api.ErrCode)
	expectBoth(t, stairs(15)[:15], api.ErrCode)
}

// everyList calls on all lists of at most so many lengths from 0 to longest.
func everyList(most int, longest int, call func([]int)) {
	var grow func([]int)
	grow = func(l []int) {
		call(l)
		if len(l) == most {
			return
		}
		for n := range longest + 1 {
			grow(append(slices.Clone(l), n))
		}
	}
	grow(nil)
}

// P4.1, P4.3: all short lists: their errors by the sum, and their codes by the chapter's words.
func TestEveryShortList(t *testing.T) {
	x := source(41)
	s := motley(&x, 3)
	d := digits(s)
	everyList(6, 4, func(l []int) {
		e := permitted(l)
		expectBoth(t, l, e)
		if e != api.OK {
			return
		}
		texts := spelled(l)
		expectCodes(t, l, values(texts))
		table := made(t, l)
		for at := range len(d) + 2 {
			expect(t, took(Next(table, s, at)), found(texts, d, at), "Next", l, at)
		}
	})
}

// values are the numbers of texts of digits.
func values(texts []string) []int {
	l := make([]int, len(texts))
	for i, text := range texts {
		for _, c := range text {
			l[i] = 2*l[i] + int(c-'0')
		}
	}
	return l
}

// P4.1: the codes of all kinds of tables, by the chapter's words.
func TestCodes(t *testing.T) {
	for _, l := range tables() {
		expectCodes(t, l, values(spelled(l)))
	}
}

// P4.2: symbols by hand, with the chapter's example.
func TestNextByHand(t *testing.T) {
	three := made(t, []int{1, 2, 2})
	for _, c := range []struct {
		s    string
		at   int
		want read
	}{
		{"\x05", 0, read{1, 2, api.OK}}, {"\x05", 2, read{1, 4, api.OK}}, {"\x05", 4, read{0, 5, api.OK}}, {"\x05", 1, read{0, 2, api.OK}},
		{"\x03", 0, read{2, 2, api.OK}}, {"\x00", 7, read{0, 8, api.OK}}, {"\x80\x01", 7, read{2, 9, api.OK}}, {"\x80\x00", 7, read{1, 9, api.OK}},
		{"\x80", 7, read{e: api.ErrShort}}, {"\xff", 8, read{e: api.ErrShort}}, {"", 0, read{e: api.ErrShort}}, {"\x05", -1, read{e: api.ErrArg}},
	} {
		expect(t, took(Next(three, c.s, c.at)), c.want, "Next", c.s, c.at)
	}
}

// P4.2: bits that end ahead of a code, or in the midst of it, or that are none at all.
func TestBitsThatEnd(t *testing.T) {
	long := made(t, stairs(15))
	ones := "\xff\xff\xff"
	for at := range 40 {
		want := read{15, at + 15, api.OK}
		if at+15 > 24 {
			want = read{e: api.ErrShort}
		}
		expect(t, took(Next(long, ones, at)), want, "Next", at)
	}
	for _, at := range []int{0, 1, 7, 8, 9, 1 << 32, most - 15, most - 1, most} {
		expect(t, took(Next(long, "", at)), read{e: api.ErrShort}, "Next", at)
		expect(t, took(Next(made(t, []int{1}), "", at)), read{e: api.ErrShort}, "Next", at)
		if at > 7 {
			expect(t, took(Next(long, "\x00", at)), read{e: api.ErrShort}, "Next", at)
			expect(t, took(Next(made(t, []int{0, 1}), "\xff", at)), read{e: api.ErrShort}, "Next", at)
		}
	}
}

// P4.2: of one code the other bit is ErrCode as soon as it stands there, though no bit may follow; of no code, each place is.
func TestBitsThatNoCodeBeginsWith(t *testing.T) {
	for _, symbol := range []int{0, 1, 7, 319} {
		one := made(t, append(repeated(0, symbol), 1))
		for at := range 8 {
			expect(t, took(Next(one, "\x00", at)), read{symbol, at + 1, api.OK}, "Next", symbol, at)
			expect(t, took(Next(one, "\xff", at)), read{e: api.ErrCode}, "Next", symbol, at)
		}
		expect(t, took(Next(one, "\xff", 8)), read{e: api.ErrShort}, "Next", symbol, 8)
	}
	for _, none := range []Table{{}, made(t, nil), made(t, []int{0}), made(t, repeated(0, 320))} {
		for _, s := range []string{"", "\x00", "\xff", "\x00\x00\x00", "\xff\xff\xff"} {
			for _, at := range []int{0, 1, 7, 8, 9, 23, 24, 1 << 40, most} {
				expect(t, took(Next(none, s, at)), read{e: api.ErrCode}, "Next", s, at)
			}
		}
	}
}

// P4.2, R2: a bit below 0 is ErrArg, ahead of all else.
func TestPlacesBelowNothing(t *testing.T) {
	for _, l := range tables() {
		table := made(t, l)
		for _, at := range wrong() {
			for _, s := range []string{"", "\x00", "\xff\xff\xff"} {
				expect(t, took(Next(table, s, at)), read{e: api.ErrArg}, "Next", l, s, at)
			}
		}
	}
}

// P4.2, P1: each place of motley bytes, and beyond them, in all kinds of tables, against texts.
func TestNext(t *testing.T) {
	x := source(99)
	for _, l := range tables() {
		table, texts := made(t, l), spelled(l)
		for _, s := range []string{"", "\x80", motley(&x, 9), motley(&x, 1) + "\xff\xff\xff", "\x00\x00"} {
			d := digits(s)
			for at := -2; at <= len(d)+2; at++ {
				expect(t, took(Next(table, s, at)), found(texts, d, at), "Next", l, s, at)
			}
		}
	}
}

// P4.3: no code begins with another one.
func TestNoCodeBeginsWithAnother(t *testing.T) {
	for _, l := range tables() {
		codes, e := Codes(l)
		expect(t, e, api.OK, "Codes", l)
		for i, n := range l {
			for j, m := range l {
				if i != j && n > 0 && m >= n && codes[j]>>(m-n) == codes[i] {
					t.Errorf("%v: the code of %d begins with that of %d", l, j, i)
				}
			}
		}
	}
}

// P4.3: each symbol's code is read back as it, at every place within a byte, with any bits behind it or none.
func TestReadBack(t *testing.T) {
	for _, l := range tables() {
		table := made(t, l)
		codes, _ := Codes(l)
		for symbol, n := range l {
			if n == 0 {
				continue
			}
			code := fmt.Sprintf("%0*b", n, codes[symbol])
			for at := range 9 {
				for _, behind := range []string{"", "0000000", "1111111", "0101010"} {
					s := packed(strings.Repeat("1", at) + code + behind)
					expect(t, took(Next(table, s, at)), read{symbol, at + n, api.OK}, "Next", l, symbol, at)
				}
			}
		}
	}
}

// P4.3: symbols written behind one another are read back in their order.
func TestReadBackInOrder(t *testing.T) {
	x := source(5)
	for _, l := range tables() {
		table, texts := made(t, l), spelled(l)
		var symbols []int
		var d strings.Builder
		for range 60 {
			if len(l) == 0 || slices.Max(l) == 0 {
				break
			}
			if symbol := x.below(len(l)); l[symbol] > 0 {
				symbols = append(symbols, symbol)
				d.WriteString(texts[symbol])
			}
		}
		s, at := packed(d.String()), 0
		for _, symbol := range symbols {
			got := took(Next(table, s, at))
			at += l[symbol]
			expect(t, got, read{symbol, at, api.OK}, "Next", l, at)
		}
	}
}

// P4.2: Bit, at each place of a byte of each kind, and where there is none.
func TestBit(t *testing.T) {
	for c := range 256 {
		s := string([]byte{byte(c), byte(255 - c)})
		for at := range 8 {
			expect(t, single(Bit(s, at)), bit{c >> at & 1, true}, "Bit", s, at)
			expect(t, single(Bit(s, at+8)), bit{1 - c>>at&1, true}, "Bit", s, at+8)
		}
	}
	for _, s := range []string{"", "\xff", "\xff\xff\xff\xff\xff\xff\xff\xff\xff"} {
		end := 8 * len(s)
		for _, at := range append(wrong(), end, end+1, end+7, end+8, 1<<32, 1<<61, 1<<62, most-1, most) {
			expect(t, single(Bit(s, at)), bit{}, "Bit", s, at)
		}
		if end > 0 {
			expect(t, single(Bit(s, end-1)), bit{1, true}, "Bit", s, end-1)
		}
	}
}

// P4.2: Bits, by hand.
func TestBitsByHand(t *testing.T) {
	const s = "\xb4\x01\x80"
	for _, c := range []struct{ at, n, want int }{
		{2, 8, 0x6d}, {0, 8, 0xb4}, {0, 16, 0x01b4}, {8, 16, 0x8001}, {4, 4, 0xb}, {4, 8, 0x1b}, {23, 1, 1}, {22, 2, 2},
		{0, 0, 0}, {5, 0, 0}, {24, 0, 0}, {0, 1, 0}, {2, 1, 1}, {7, 2, 3}, {1, 16, 0x00da}, {8, 15, 1}, {7, 16, 3},
	} {
		expect(t, took(Bits(s, c.at, c.n)), read{c.want, c.at + c.n, api.OK}, "Bits", c.at, c.n)
	}
	expect(t, took(Bits("\xff\xff", 0, 16)), read{65535, 16, api.OK}, "Bits")
	expect(t, took(Bits("", 0, 0)), read{}, "Bits", "", 0, 0)
	expect(t, took(Bits("", 0, 1)), read{e: api.ErrShort}, "Bits", "", 0, 1)
	expect(t, took(Bits("", 1, 0)), read{e: api.ErrShort}, "Bits", "", 1, 0)
}

// P4.2: each place and number of bits, against digits; ErrShort where there are fewer, or beyond the end, even of 0 bits.
func TestBits(t *testing.T) {
	x := source(3)
	for _, s := range []string{"", "\x01", "\x80", motley(&x, 2), motley(&x, 7), "\xff\xff\xff\xff"} {
		d := digits(s)
		for at := range len(d) + 20 {
			for n := range 17 {
				want := read{e: api.ErrShort}
				if at+n <= len(d) {
					turned := []byte(d[at : at+n])
					slices.Reverse(turned)
					want = read{values([]string{string(turned)})[0], at + n, api.OK}
				}
				expect(t, took(Bits(s, at, n)), want, "Bits", s, at, n)
			}
		}
		for _, at := range []int{1 << 32, 1 << 61, 1 << 62, most - 16, most - 15, most - 1, most} {
			for n := range 17 {
				expect(t, took(Bits(s, at, n)), read{e: api.ErrShort}, "Bits", s, at, n)
			}
		}
	}
}

// P4.2, R2: a place below 0, or n outside of 0 to 16, is ErrArg, ahead of ErrShort.
func TestBitsOfWrongArguments(t *testing.T) {
	for _, s := range []string{"", "\xff", "\xff\xff\xff\xff\xff\xff\xff\xff\xff"} {
		for _, n := range append(wrong(), 17, 18, 31, 32, 63, 64, 1<<32, most-1, most) {
			for _, at := range append(wrong(), 0, 1, 8, 72, 73, 1<<62, most) {
				expect(t, took(Bits(s, at, n)), read{e: api.ErrArg}, "Bits", s, at, n)
			}
		}
		for _, at := range wrong() {
			for n := range 17 {
				expect(t, took(Bits(s, at, n)), read{e: api.ErrArg}, "Bits", s, at, n)
			}
		}
	}
}

// R1: lengths stay as they were, and are not kept: what is written into them, or into codes, turns nothing of a table.
func TestLengthsAreNotKept(t *testing.T) {
	for _, l := range tables() {
		given := slices.Clone(l)
		table := made(t, given)
		codes, _ := Codes(given)
		if !slices.Equal(given, l) {
			t.Errorf("%v became %v", l, given)
		}
		want := slices.Clone(codes)
		for i := range given {
			given[i] = -1
		}
		if !slices.Equal(codes, want) {
			t.Errorf("the codes %v became %v", want, codes)
		}
		for i := range codes {
			codes[i] = -1
		}
		expectCodes(t, l, want)
		s, texts := "\x6c\x93\x05\xfe", spelled(l)
		for at := range 32 {
			expect(t, took(Next(table, s, at)), found(texts, digits(s), at), "Next", l, at)
		}
	}
}

// R3, R4: a second call answers the same, and calls between, also of errors and of other tables, do not matter.
func TestSecondCalls(t *testing.T) {
	s := "\x6c\x93\x05\xfe"
	for _, l := range tables() {
		table := made(t, l)
		first := took(Next(table, s, 3))
		New([]int{1, 1, 1})
		Codes([]int{16})
		other := made(t, fixed())
		Next(other, s, 3)
		Next(table, s, -1)
		Next(table, "", 0)
		expect(t, took(Next(table, s, 3)), first, "Next", l)
		expect(t, took(Next(made(t, l), s, 3)), first, "Next", l)
		expectCodes(t, l, values(spelled(l)))
	}
}
