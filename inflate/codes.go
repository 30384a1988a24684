package inflate

import (
	"slices"

	"celluloid/api"
	"celluloid/huff"
)

// How many symbols a block of own codes has, at most: the codes have room for two more of each, which stand for nothing.
const (
	mostSymbols   = 286
	mostDistances = 30
)

// repeat is the first of the symbols that stand for several lengths: it repeats the one ahead, those behind it repeat 0.
const repeat = 16

// repeats are how many lengths the symbols 16, 17 and 18 stand for.
var repeats = [3]span{{3, 2}, {3, 3}, {11, 7}}

// order is that in which the lengths of the lengths' own codes stand.
var order = [19]int{16, 17, 18, 0, 8, 7, 9, 6, 10, 5, 11, 4, 12, 3, 13, 2, 14, 1, 15}

// fixedCodes are those of blocks of the kind 1.
func fixedCodes() codes {
	symbols := slices.Concat(
		slices.Repeat([]int{8}, 144), slices.Repeat([]int{9}, 112),
		slices.Repeat([]int{7}, 24), slices.Repeat([]int{8}, 8))
	// These lengths are full, so that there is no error.
	c, _ := made(symbols, slices.Repeat([]int{5}, 32))
	return c
}

// made: the codes of lengths.
func made(symbols []int, distances []int) (codes, api.Errno) {
	t, e := huff.New(symbols)
	if e != api.OK {
		return codes{}, e
	}
	d, e := huff.New(distances)
	if e != api.OK {
		return codes{}, e
	}
	return codes{t, d}, api.OK
}

// ownCodes: those that stand at the beginning of a block of the kind 2.
func (u *unpacker) ownCodes() (codes, api.Errno) {
	n, e := u.counts()
	if e != api.OK {
		return codes{}, e
	}
	t, e := u.lengthsCodes(n.lengths)
	if e != api.OK {
		return codes{}, e
	}
	// The lengths of both are one list: a repeat may go from the symbols' over into the distances'.
	l, e := u.codeLengths(t, n.symbols+n.distances)
	if e != api.OK {
		return codes{}, e
	}
	if l[endOfBlock] == 0 {
		return codes{}, api.ErrField
	}
	return made(l[:n.symbols], l[n.symbols:])
}

// counts are a block's three numbers: of symbols, of distances, and of lengths of the lengths' own codes.
type counts struct {
	symbols, distances, lengths int
}

func (u *unpacker) counts() (counts, api.Errno) {
	symbols, e := u.within(span{257, 5})
	if e != api.OK {
		return counts{}, e
	}
	distances, e := u.within(span{1, 5})
	if e != api.OK {
		return counts{}, e
	}
	lengths, e := u.within(span{4, 4})
	if e != api.OK {
		return counts{}, e
	}
	if symbols > mostSymbols || distances > mostDistances {
		return counts{}, api.ErrField
	}
	return counts{symbols, distances, lengths}, api.OK
}

// lengthsCodes: the codes in which the lengths of the others are written.
func (u *unpacker) lengthsCodes(count int) (huff.Table, api.Errno) {
	l := make([]int, len(order))
	for i := range count {
		n, e := u.number(3)
		if e != api.OK {
			return huff.Table{}, e
		}
		l[order[i]] = n
	}
	return huff.New(l)
}

// codeLengths: so many lengths of codes.
func (u *unpacker) codeLengths(t huff.Table, count int) ([]int, api.Errno) {
	l := make([]int, 0, count)
	for len(l) < count {
		symbol, e := u.symbol(t)
		if e != api.OK {
			return nil, e
		}
		length, n, e := u.repeated(symbol, l)
		if e != api.OK {
			return nil, e
		}
		if n > count-len(l) {
			return nil, api.ErrField
		}
		for range n {
			l = append(l, length)
		}
	}
	return l, api.OK
}

// repeated: the length that a symbol stands for, behind those of l, and how many times.
func (u *unpacker) repeated(symbol int, l []int) (int, int, api.Errno) {
	if symbol < repeat {
		return symbol, 1, api.OK
	}
	length := 0
	if symbol == repeat {
		// No bits behind the symbol could mend that, so it is told even where they end.
		if len(l) == 0 {
			return 0, 0, api.ErrField
		}
		length = l[len(l)-1]
	}
	n, e := u.within(repeats[symbol-repeat])
	return length, n, e
}
