package inflate

import (
	"celluloid/api"
	"celluloid/huff"
)

// The kinds of blocks.
const (
	stored = 0
	fixed  = 1
	own    = 2
)

// The symbols of the codes of a block: bytes, its end, and lengths of copies.
const (
	endOfBlock  = 256
	firstLength = 257
)

// span is the numbers from least on that one symbol stands for, with so many bits behind it that say which.
type span struct {
	least, bits int
}

// lengthSpans are the lengths of copies, from the symbol 257 on.
var lengthSpans = [29]span{
	{3, 0}, {4, 0}, {5, 0}, {6, 0}, {7, 0}, {8, 0}, {9, 0}, {10, 0},
	{11, 1}, {13, 1}, {15, 1}, {17, 1}, {19, 2}, {23, 2}, {27, 2}, {31, 2},
	{35, 3}, {43, 3}, {51, 3}, {59, 3}, {67, 4}, {83, 4}, {99, 4}, {115, 4},
	{131, 5}, {163, 5}, {195, 5}, {227, 5}, {258, 0},
}

// distanceSpans are the distances of copies, from the symbol 0 of their own codes on.
var distanceSpans = [30]span{
	{1, 0}, {2, 0}, {3, 0}, {4, 0}, {5, 1}, {7, 1}, {9, 2}, {13, 2},
	{17, 3}, {25, 3}, {33, 4}, {49, 4}, {65, 5}, {97, 5}, {129, 6}, {193, 6},
	{257, 7}, {385, 7}, {513, 8}, {769, 8}, {1025, 9}, {1537, 9}, {2049, 10}, {3073, 10},
	{4097, 11}, {6145, 11}, {8193, 12}, {12289, 12}, {16385, 13}, {24577, 13},
}

// codes are those of a block's symbols, and of its distances.
type codes struct {
	symbols, distances huff.Table
}

// unpacker goes through packed bytes, bit by bit, and keeps what they are so far.
type unpacker struct {
	s     string
	at    int
	most  int
	out   []byte
	fixed codes // made once, as there may be very many blocks of few bits
}

// block: the next one, and whether it is the last.
func (u *unpacker) block() (bool, api.Errno) {
	last, e := u.number(1)
	if e != api.OK {
		return false, e
	}
	kind, e := u.number(2)
	if e != api.OK {
		return false, e
	}
	switch kind {
	case stored:
		e = u.storedBytes()
	case fixed:
		e = u.symbols(u.fixed)
	case own:
		e = u.ownBlock()
	default:
		e = api.ErrField
	}
	return last == 1, e
}

func (u *unpacker) storedBytes() api.Errno {
	u.align()
	n, e := u.number(16)
	if e != api.OK {
		return e
	}
	turned, e := u.number(16)
	if e != api.OK {
		return e
	}
	if turned != n^0xffff {
		return api.ErrField
	}
	// Whether there is room is known ahead of the bytes, so it is told even where they end.
	if n > u.room() {
		return api.ErrLimit
	}
	from := u.at / 8
	if n > len(u.s)-from {
		return api.ErrShort
	}
	u.out = append(u.out, u.s[from:from+n]...)
	u.at += 8 * n
	return api.OK
}

func (u *unpacker) ownBlock() api.Errno {
	c, e := u.ownCodes()
	if e != api.OK {
		return e
	}
	return u.symbols(c)
}

// symbols: all up to the end of a block.
func (u *unpacker) symbols(c codes) api.Errno {
	for {
		symbol, e := u.symbol(c.symbols)
		switch {
		case e != api.OK:
		case symbol < endOfBlock:
			e = u.put(byte(symbol))
		case symbol == endOfBlock:
			return api.OK
		default:
			e = u.copied(symbol-firstLength, c.distances)
		}
		if e != api.OK {
			return e
		}
	}
}

func (u *unpacker) put(b byte) api.Errno {
	if u.room() < 1 {
		return api.ErrLimit
	}
	u.out = append(u.out, b)
	return api.OK
}

// copied: so many bytes as a symbol says, from so far back as the distance behind it says.
func (u *unpacker) copied(symbol int, t huff.Table) api.Errno {
	if symbol >= len(lengthSpans) {
		return api.ErrField
	}
	n, e := u.within(lengthSpans[symbol])
	if e != api.OK {
		return e
	}
	far, e := u.distance(t)
	if e != api.OK {
		return e
	}
	if far > len(u.out) {
		return api.ErrField
	}
	if n > u.room() {
		return api.ErrLimit
	}
	// A copy may reach into itself: each byte stands there ahead of the next.
	for range n {
		u.out = append(u.out, u.out[len(u.out)-far])
	}
	return api.OK
}

func (u *unpacker) distance(t huff.Table) (int, api.Errno) {
	symbol, e := u.symbol(t)
	if e != api.OK {
		return 0, e
	}
	if symbol >= len(distanceSpans) {
		return 0, api.ErrField
	}
	return u.within(distanceSpans[symbol])
}

// within: the number of a span that the next bits say.
func (u *unpacker) within(p span) (int, api.Errno) {
	further, e := u.number(p.bits)
	if e != api.OK {
		return 0, e
	}
	return p.least + further, api.OK
}

func (u *unpacker) symbol(t huff.Table) (int, api.Errno) {
	symbol, at, e := huff.Next(t, u.s, u.at)
	if e != api.OK {
		return 0, e
	}
	u.at = at
	return symbol, api.OK
}

func (u *unpacker) number(n int) (int, api.Errno) {
	v, at, e := huff.Bits(u.s, u.at, n)
	if e != api.OK {
		return 0, e
	}
	u.at = at
	return v, api.OK
}

// align goes to the next whole byte.
func (u *unpacker) align() {
	u.at = (u.at + 7) / 8 * 8
}

// room: how many bytes more there may be.
func (u *unpacker) room() int {
	return u.most - len(u.out)
}
