package deflate

import "math/bits"

// fixed is the kind of the one block that is written: its codes are RFC 1951's own.
const fixed = 1

// The symbols that are no bytes.
const (
	endOfBlock  = 256
	firstLength = 257
	lastLength  = 285
)

// distanceBits are those of a distance's code, all of which are equally long.
const distanceBits = 5

// packer writes bits, into each byte from its lowest bit on.
type packer struct {
	out   []byte
	held  int // bits that are no whole byte yet
	count int // of these
}

// start is that of the last block.
func (p *packer) start() {
	p.number(1, 1)
	p.number(fixed, 2)
}

// number writes n bits, the lowest first.
func (p *packer) number(v int, n int) {
	p.held |= v << p.count
	p.count += n
	for p.count >= 8 {
		p.out = append(p.out, byte(p.held))
		p.held >>= 8
		p.count -= 8
	}
}

// code writes n bits, the highest first.
func (p *packer) code(v int, n int) {
	p.number(int(bits.Reverse16(uint16(v))>>(16-n)), n)
}

// fill writes noughts up to a whole byte.
func (p *packer) fill() {
	if p.count > 0 {
		p.number(0, 8-p.count)
	}
}

// symbol writes the code that RFC 1951 fixes for it.
func (p *packer) symbol(n int) {
	switch {
	case n < 144:
		p.code(0b00110000+n, 8)
	case n < 256:
		p.code(0b110010000+n-144, 9)
	case n < 280:
		p.code(n-256, 7)
	default:
		p.code(0b11000000+n-280, 8)
	}
}

func (p *packer) length(n int) {
	// The rule of the others would tell the longest one with five bits behind the symbol ahead.
	if n == longest {
		p.symbol(lastLength)
		return
	}
	t := split(n-shortest, 3)
	p.symbol(firstLength + t.symbol)
	p.number(t.rest, t.bits)
}

func (p *packer) distance(n int) {
	t := split(n-1, 2)
	p.code(t.symbol, distanceBits)
	p.number(t.rest, t.bits)
}

// told is a number as a symbol and the bits behind it.
type told struct {
	symbol, rest, bits int
}

// split tells v by RFC 1951's rule: the symbol knows its so many highest bits and how many more there are, the rest stands behind.
// A number of no more bits is its own symbol; each bit more has 2^(upper-1) symbols, as the highest one is always set.
func split(v int, upper int) told {
	n := max(0, bits.Len(uint(v))-upper)
	return told{n<<(upper-1) + v>>n, v & (1<<n - 1), n}
}
