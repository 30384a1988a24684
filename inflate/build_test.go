package inflate

import (
	"fmt"
	"slices"
	"strings"
)

// Packed bytes are built here as texts of digits, one a bit, in the order in which the bits are taken.

// number is n bits, the lowest first.
func number(v int, n int) string {
	var b strings.Builder
	for i := range n {
		b.WriteByte('0' + byte(v>>i&1))
	}
	return b.String()
}

// digits are the bits of bytes.
func digits(s string) string {
	var b strings.Builder
	for i := range len(s) {
		b.WriteString(number(int(s[i]), 8))
	}
	return b.String()
}

// stream is the digits of blocks so far.
type stream string

// bytes are the stream's; the last one's bits that are left are 0.
func (d stream) bytes() string {
	s := make([]byte, (len(d)+7)/8)
	for i := range len(d) {
		s[i/8] |= (d[i] - '0') << (i % 8)
	}
	return string(s)
}

// filled is the stream up to a whole byte, with bits of one kind.
func (d stream) filled(digit string) stream {
	return d + stream(strings.Repeat(digit, (8-len(d)%8)%8))
}

// cut is the stream without its last byte, or the part of one: whole bytes, as noughts that fill up might be a code.
func (d stream) cut() stream {
	return d[:(len(d)-1)/8*8]
}

// start is a block's three first bits.
func (d stream) start(last bool, kind int) stream {
	if last {
		return d + stream("1"+number(kind, 2))
	}
	return d + stream("0"+number(kind, 2))
}

// lengths is the beginning of a stored block, with its two lengths.
func (d stream) lengths(last bool, n int, turned int) stream {
	return d.start(last, 0).filled("0") + stream(number(n, 16)+number(turned, 16))
}

func (d stream) stored(last bool, s string) stream {
	return d.lengths(last, len(s), 65535-len(s)) + stream(digits(s))
}

func (d stream) fixed(last bool, items ...string) stream {
	return d.start(last, 1) + stream(strings.Join(items, ""))
}

func (d stream) own(last bool, a alphabet, items ...string) stream {
	return d.start(last, 2) + stream(a.head+strings.Join(items, ""))
}

// alphabet is the codes of a block's symbols and distances, as texts, and, of own ones, how they are told ahead.
type alphabet struct {
	symbols, distances []string
	head               string
}

// spelled are the codes of lengths, as texts whose first digit is the highest; "" of a symbol that has none.
func spelled(lengths []int) []string {
	texts := make([]string, len(lengths))
	code := 0
	for n := 1; n <= 15; n++ {
		code *= 2
		for symbol, length := range lengths {
			if length == n {
				texts[symbol] = fmt.Sprintf("%0*b", n, code)
				code++
			}
		}
	}
	return texts
}

// fixedAlphabet is RFC 1951's, as its section 3.2.6 writes it.
func fixedAlphabet() alphabet {
	var a alphabet
	for i := range 288 {
		switch {
		case i < 144:
			a.symbols = append(a.symbols, fmt.Sprintf("%08b", 0b00110000+i))
		case i < 256:
			a.symbols = append(a.symbols, fmt.Sprintf("%09b", 0b110010000+i-144))
		case i < 280:
			a.symbols = append(a.symbols, fmt.Sprintf("%07b", i-256))
		default:
			a.symbols = append(a.symbols, fmt.Sprintf("%08b", 0b11000000+i-280))
		}
	}
	for i := range 32 {
		a.distances = append(a.distances, fmt.Sprintf("%05b", i))
	}
	return a
}

var common = fixedAlphabet()

// written is the order of the lengths of the lengths' codes, by RFC 1951.
func written() []int {
	return []int{16, 17, 18, 0, 8, 7, 9, 6, 10, 5, 11, 4, 12, 3, 13, 2, 14, 1, 15}
}

// plainMeta are full lengths of all 19 codes that lengths may be written in.
func plainMeta() []int {
	return append(slices.Repeat([]int{4}, 13), slices.Repeat([]int{5}, 6)...)
}

// counted is the three numbers of a block of own codes.
func counted(symbols int, distances int, lengths int) string {
	return number(symbols-257, 5) + number(distances-1, 5) + number(lengths-4, 4)
}

// headed is the beginning of a block of own codes: its numbers, meta (how long the lengths' codes are), and items in these.
func headed(symbols int, distances int, meta []int, items ...string) string {
	order := written()
	count := 19
	for count > 4 && meta[order[count-1]] == 0 {
		count--
	}
	var b strings.Builder
	b.WriteString(counted(symbols, distances, count))
	for _, symbol := range order[:count] {
		b.WriteString(number(meta[symbol], 3))
	}
	return b.String() + strings.Join(items, "")
}

// metaItem is a symbol of the plain meta, with the bits behind it.
func metaItem(symbol int, further int) string {
	text := spelled(plainMeta())[symbol]
	switch symbol {
	case 16:
		return text + number(further, 2)
	case 17:
		return text + number(further, 3)
	case 18:
		return text + number(further, 7)
	}
	return text
}

// each writes lengths one by one, without a repeat.
func each(lengths ...int) string {
	var b strings.Builder
	for _, n := range lengths {
		b.WriteString(metaItem(n, 0))
	}
	return b.String()
}

// ownAlphabet is of those lengths, all written one by one.
func ownAlphabet(symbols []int, distances []int) alphabet {
	head := headed(len(symbols), len(distances), plainMeta(), each(symbols...), each(distances...))
	return alphabet{spelled(symbols), spelled(distances), head}
}

// having are lengths of count symbols that have just the codes of one length for the symbols named.
func having(count int, length int, symbols ...int) []int {
	l := make([]int, count)
	for _, symbol := range symbols {
		l[symbol] = length
	}
	return l
}

// ruled are RFC 1951's spans by their rule: each goes on where the one ahead ends, and every group of them has a bit more.
func ruled(least int, count int, group int) []span {
	var l []span
	for i := range count {
		bits := max(0, i/group-1)
		l = append(l, span{least, bits})
		least += 1 << bits
	}
	return l
}

func ruledLengths() []span {
	return append(ruled(3, 28, 4), span{258, 0})
}

func ruledDistances() []span {
	return ruled(1, 30, 2)
}

// item is a symbol of spans that stands for n, and the bits behind it: the last one whose least number is not above n.
func item(spans []span, n int) (int, string) {
	for i := len(spans) - 1; i >= 0; i-- {
		if spans[i].least <= n {
			return i, number(n-spans[i].least, spans[i].bits)
		}
	}
	panic("no such number")
}

// text is bytes in the alphabet.
func (a alphabet) text(s string) string {
	var b strings.Builder
	for i := range len(s) {
		b.WriteString(a.symbols[s[i]])
	}
	return b.String()
}

// length is the first half of a copy, far the second.
func (a alphabet) length(n int) string {
	symbol, further := item(ruledLengths(), n)
	return a.symbols[257+symbol] + further
}

func (a alphabet) far(n int) string {
	symbol, further := item(ruledDistances(), n)
	return a.distances[symbol] + further
}

func (a alphabet) copy(n int, far int) string {
	return a.length(n) + a.far(far)
}

func (a alphabet) end() string {
	return a.symbols[256]
}

// shifted is a stream of blocks of the byte 255 alone, 19 bits each, so that what follows begins at any bit of a byte.
func shifted(blocks int) stream {
	var d stream
	for range blocks {
		d = d.fixed(false, common.text("\xff"), common.end())
	}
	return d
}

// source makes numbers that are always the same ones.
type source uint64

func (x *source) below(n int) int {
	*x ^= *x << 13
	*x ^= *x >> 7
	*x ^= *x << 17
	return int(uint64(*x) >> 11 % uint64(n))
}

// motley is a text of bytes of so many kinds.
func motley(x *source, count int, kinds int) string {
	s := make([]byte, count)
	for i := range s {
		s[i] = byte(x.below(kinds))
	}
	return string(s)
}

// grown are full lengths of count symbols, all of which have a code.
func grown(x *source, count int) []int {
	l := []int{1, 1}
	for len(l) < count {
		// A code that becomes two of one bit more leaves the sum as it is.
		if i := x.below(len(l)); l[i] < 15 {
			l[i]++
			l = append(l, l[i])
		}
	}
	return l
}
