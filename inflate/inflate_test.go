package inflate

import (
	"bytes"
	"compress/flate"
	"compress/zlib"
	"hash/adler32"
	"io"
	"math"
	"slices"
	"strings"
	"testing"

	"celluloid/api"
)

const room = 1 << 18

// wrongRooms are numbers that most may not be.
func wrongRooms() []int {
	return []int{-1, -2, -room, math.MinInt64, math.MinInt64 + 1, room + 1, 2 * room, 1 << 32, 1<<32 + 5, math.MaxInt64}
}

// expect holds Raw to an answer.
func expect(t *testing.T, s string, most int, want answer) {
	t.Helper()
	if got := raw(s, most); got != want {
		t.Errorf("Raw(%.99q, %d) = %.99q, %d, %d, want %.99q, %d, %d", s, most, got.out, got.n, got.e, want.out, want.n, want.e)
	}
}

// expectRight holds Raw to the whole of a stream being out.
func expectRight(t *testing.T, d stream, most int, out string) {
	t.Helper()
	expect(t, d.bytes(), most, answer{out, (len(d) + 7) / 8, api.OK})
}

// expectWrong holds Raw to an error, with all else zero.
func expectWrong(t *testing.T, d stream, most int, e api.Errno) {
	t.Helper()
	expect(t, d.bytes(), most, answer{e: e})
}

func expectOpen(t *testing.T, s string, most int, out string, e api.Errno) {
	t.Helper()
	if got, f := Open(s, most); got != out || f != e {
		t.Errorf("Open(%.99q, %d) = %.99q, %d, want %.99q, %d", s, most, got, f, out, e)
	}
}

// piece is a block that may stand behind any other, and what it is.
type piece struct {
	add func(d stream, last bool) stream
	out string
}

func storedPiece(s string) piece {
	return piece{func(d stream, last bool) stream { return d.stored(last, s) }, s}
}

func fixedPiece(out string, items ...string) piece {
	return piece{func(d stream, last bool) stream { return d.fixed(last, append(items, common.end())...) }, out}
}

func ownPiece(a alphabet, out string, items ...string) piece {
	return piece{func(d stream, last bool) stream { return d.own(last, a, append(items, a.end())...) }, out}
}

// pieces are blocks of all kinds, of no bytes, of few and of many.
func pieces() []piece {
	x := source(88172645463325252)
	alone := ownAlphabet(having(257, 1, 256), []int{0})
	pair := ownAlphabet(having(257, 1, 'a', 256), []int{0})
	four := ownAlphabet(having(258, 2, 'a', 'b', 256, 257), []int{0, 1})
	all := ownAlphabet(grown(&x, 286), grown(&x, 30))
	some := motley(&x, 40, 256)
	return []piece{
		storedPiece(""), storedPiece("s"), storedPiece(motley(&x, 300, 256)),
		fixedPiece(""), fixedPiece("f", common.text("f")), fixedPiece(some, common.text(some)),
		fixedPiece("abcabcabcabc", common.text("abc"), common.copy(9, 3)),
		ownPiece(alone, ""), ownPiece(pair, "aaa", pair.text("aaa")),
		ownPiece(four, "abbababa", four.text("abbab"), four.copy(3, 2)),
		ownPiece(all, some+some, all.text(some), all.copy(40, 40)),
	}
}

// library is what the library's unpacker says that s is.
func library(t *testing.T, s string) string {
	t.Helper()
	out, err := io.ReadAll(flate.NewReader(strings.NewReader(s)))
	if err != nil {
		t.Fatalf("%.99q: %v", s, err)
	}
	return string(out)
}

// P5.1: bytes by hand, with the chapter's examples.
func TestRawByHand(t *testing.T) {
	for _, c := range []struct {
		s    string
		want answer
	}{
		{"\x01\x01\x00\xfe\xffa", answer{"a", 6, api.OK}},
		{"\x03\x00", answer{"", 2, api.OK}},
		{"\x01\x00\x00\xff\xff", answer{"", 5, api.OK}},
		{"\x00\x00\x00\xff\xff\x03\x00", answer{"", 7, api.OK}},
		{"\x4b\x4c\x4a\x06\x00", answer{"abc", 5, api.OK}},
		{"\x4b\x04\x00", answer{"a", 3, api.OK}},
		{"\x4b\x4c\x84\x01\x00", answer{"aaaaaaaaaa", 5, api.OK}},
		{"", answer{e: api.ErrShort}},
		{"\x01", answer{e: api.ErrShort}},
		{"\x03", answer{e: api.ErrShort}},
		{"\x05", answer{e: api.ErrShort}},
		{"\x06", answer{e: api.ErrField}},
		{"\x07", answer{e: api.ErrField}},
		{"\x00\x00\x00\xff\xff\x07", answer{e: api.ErrField}},
	} {
		expect(t, c.s, 10, c.want)
		expect(t, c.s, room, c.want)
	}
}

// P5.1, P5.2: most must be from 0 to 2^18, ahead of all else.
func TestRooms(t *testing.T) {
	open := "\x78\x9c\x03\x00\x00\x00\x00\x01"
	for _, most := range []int{0, 1, 2, room - 1, room} {
		expect(t, "\x03\x00", most, answer{"", 2, api.OK})
		expectOpen(t, open, most, "", api.OK)
	}
	for _, most := range wrongRooms() {
		for _, s := range []string{"\x03\x00", "", "\x07", "\x01\x01\x00\xfe\xffa", open} {
			expect(t, s, most, answer{e: api.ErrArg})
			expectOpen(t, s, most, "", api.ErrArg)
		}
		expectOpen(t, "x", most, "", api.ErrArg)
		expectOpen(t, open+"x", most, "", api.ErrArg)
	}
}

// P5.1: every block behind every two others, at every bit of a byte, against the library's unpacker as well.
func TestBlocksBehindEachOther(t *testing.T) {
	l := pieces()
	for i, first := range l {
		for j, second := range l {
			third := l[(3*i+5*j)%len(l)]
			blocks := (i + j) % 8
			d := third.add(second.add(first.add(shifted(blocks), false), false), true)
			out := strings.Repeat("\xff", blocks) + first.out + second.out + third.out
			expectRight(t, d, room, out)
			if got := library(t, d.bytes()); got != out {
				t.Errorf("the library: %.99q, want %.99q", got, out)
			}
		}
	}
}

// P5.1: a block alone, at every bit of a byte, cut at every byte: the bytes end, wherever that is.
func TestCutBlocks(t *testing.T) {
	for _, p := range pieces() {
		for blocks := range 8 {
			d := p.add(shifted(blocks), true)
			out := strings.Repeat("\xff", blocks) + p.out
			expectRight(t, d, len(out), out)
			s := d.bytes()
			for n := range len(s) {
				expect(t, s[:n], len(out), answer{e: api.ErrShort})
			}
			// Without the bit that says so, the block is not the last.
			expectWrong(t, p.add(shifted(blocks), false), len(out), api.ErrShort)
		}
	}
}

// P5.1: fewer bits than a block's three first ones; with three of 1, it is of the kind 3.
func TestCutStarts(t *testing.T) {
	for blocks := range 8 {
		d := shifted(blocks)
		whole := d.filled("1")
		if len(whole)-len(d) < 3 {
			expectWrong(t, whole, room, api.ErrShort)
		} else {
			expectWrong(t, whole, room, api.ErrField)
		}
	}
}

// P5.1, P5.3: a stored block is just its bytes, from none to 65,535.
func TestStored(t *testing.T) {
	x := source(7)
	for _, n := range []int{0, 1, 2, 255, 256, 257, 32768, 32769, 65534, 65535} {
		s := motley(&x, n, 256)
		expectRight(t, stream("").stored(true, s), n, s)
		expectRight(t, shifted(3).stored(true, s), room, "\xff\xff\xff"+s)
	}
	for c := range 256 {
		s := string([]byte{byte(c)})
		expectRight(t, stream("").stored(true, s), 1, s)
	}
	four := strings.Repeat("x", 65535)
	d := stream("").stored(false, four).stored(false, four).stored(false, four).stored(false, four).stored(true, "last")
	expectRight(t, d, room, strings.Repeat("x", 262140)+"last")
}

// P5.1: the bits up to the lengths of a stored block do not matter.
func TestBitsAheadOfStored(t *testing.T) {
	for blocks := range 8 {
		d := shifted(blocks).start(true, 0).filled("1") + stream(number(2, 16)+number(65533, 16)+digits("ab"))
		expectRight(t, d, room, strings.Repeat("\xff", blocks)+"ab")
	}
}

// P5.1: the second length must be the first one, with all bits turned; that is told ahead of the room and of bytes that end.
func TestStoredLengths(t *testing.T) {
	for _, n := range []int{0, 1, 3, 255, 256, 65535} {
		turned := 65535 - n
		for bit := range 16 {
			d := stream("").lengths(true, n, turned^1<<bit)
			expectWrong(t, d, room, api.ErrField)
			expectWrong(t, d, 0, api.ErrField)
			expectWrong(t, d+stream(digits(strings.Repeat("x", n))), n, api.ErrField)
			for cut := 8; cut < len(d); cut += 8 {
				expectWrong(t, d[:cut], room, api.ErrShort)
			}
		}
		expectWrong(t, stream("").lengths(true, n, n), room, api.ErrField)
	}
}

// P5.1: every length and every distance of a copy, in fixed codes.
func TestCopies(t *testing.T) {
	x := source(99)
	s := motley(&x, 32768, 256)
	for n := 3; n <= 258; n++ {
		far := 1 + x.below(n+20)
		out := s[:300] + strings.Repeat(s[300-far:300], n/far+1)[:n]
		expectRight(t, stream("").stored(false, s[:300]).fixed(true, common.copy(n, far), common.end()), room, out)
	}
	for _, p := range ruledDistances() {
		for _, far := range []int{p.least, p.least + 1<<p.bits/2, p.least + 1<<p.bits - 1} {
			d := stream("").stored(false, s).fixed(true, common.copy(3, far), common.end())
			expectRight(t, d, room, s+strings.Repeat(s[32768-far:], 3)[:3])
		}
	}
	// 258 is also 227 and 31 more.
	long := common.symbols[284] + number(31, 5) + common.far(1)
	expectRight(t, stream("").fixed(true, common.text("z"), long, common.end()), room, strings.Repeat("z", 259))
}

// P5.1: a distance of all that is there already, and one more, in the same block or in others ahead.
func TestDistances(t *testing.T) {
	x := source(5)
	for _, n := range []int{1, 2, 3, 4, 5, 6, 8, 9, 30, 1024, 1025, 24576, 32767} {
		s := motley(&x, n, 256)
		for _, d := range []stream{stream("").stored(false, s).start(true, 1), stream("").fixed(true, common.text(s))} {
			all := d + stream(common.copy(258, n)+common.end())
			expectRight(t, all, n+258, s+strings.Repeat(s, 258/n+1)[:258])
			expectWrong(t, d+stream(common.copy(3, n+1)+common.end()), room, api.ErrField)
			expectWrong(t, d+stream(common.copy(3, 32768)+common.end()), room, api.ErrField)
		}
	}
	expectWrong(t, stream("").fixed(true, common.copy(3, 1), common.end()), room, api.ErrField)
	s := motley(&x, 40000, 256)
	expectRight(t, stream("").stored(false, s).fixed(true, common.copy(3, 32768), common.end()), room, s+s[7232:7235])
}

// P5.1: the symbols 286 and 287, and the distances 30 and 31, are refused as they stand there.
func TestSymbolsOfNothing(t *testing.T) {
	for blocks := range 8 {
		for _, symbol := range []int{286, 287} {
			d := shifted(blocks).fixed(true, common.symbols[symbol])
			expectWrong(t, d, room, api.ErrField)
			expectWrong(t, d, blocks, api.ErrField)
			expectWrong(t, d+stream(common.far(1)+common.end()), room, api.ErrField)
		}
		for _, distance := range []int{30, 31} {
			d := shifted(blocks).fixed(true, common.text("ab"), common.length(3), common.distances[distance])
			expectWrong(t, d, room, api.ErrField)
			expectWrong(t, d, blocks+2, api.ErrField)
			expectWrong(t, d+stream(common.end()), room, api.ErrField)
		}
	}
}

// P5.1: all distances' symbols in codes of their own, and 286 and 30 symbols; one more of either is refused.
func TestMostSymbols(t *testing.T) {
	x := source(31)
	s := motley(&x, 32768, 256)
	a := ownAlphabet(grown(&x, 286), grown(&x, 30))
	for _, far := range []int{1, 2, 300, 24577, 32768} {
		d := stream("").stored(false, s).own(true, a, a.copy(258, far), a.end())
		expectRight(t, d, room, s+strings.Repeat(s[32768-far:], 258/far+1)[:258])
	}
	for _, c := range []struct{ symbols, distances int }{{287, 1}, {288, 1}, {257, 31}, {257, 32}, {287, 31}, {288, 32}, {286, 31}, {287, 30}} {
		for lengths := 4; lengths <= 19; lengths++ {
			// Told when the three numbers were read, whether or not there is more.
			d := shifted(7).start(true, 2) + stream(counted(c.symbols, c.distances, lengths))
			expectWrong(t, d, room, api.ErrField)
			expectWrong(t, d+stream(strings.Repeat("0", 400)), room, api.ErrField)
			expectWrong(t, d+stream(strings.Repeat("1", 400)), room, api.ErrField)
		}
	}
	// Neither number is held to anything ahead of the third one: 5 blocks of 19 bits, and 17, are whole bytes.
	d := shifted(5).start(true, 2) + stream(counted(288, 32, 19))
	expectWrong(t, d, room, api.ErrField)
	expectWrong(t, d.cut(), room, api.ErrShort)
}

// P5.1: the lengths of the lengths' codes, in the order of RFC 1951, as many as there are said to be.
func TestLengthsOfLengths(t *testing.T) {
	order := written()
	for count := 5; count <= 19; count++ {
		// The length that stands last is that of all codes of the block, if so many symbols may have it.
		length := order[count-1]
		if length < 1 || length > 8 {
			continue
		}
		meta := having(19, 1, 0, length)
		symbols := make([]int, 257)
		for i := range 1 << length {
			symbols[256-i] = length
		}
		head := headed(257, 1, meta)
		for _, n := range append(slices.Clone(symbols), 0) {
			head += spelled(meta)[n]
		}
		a := alphabet{spelled(symbols), nil, head}
		expectRight(t, stream("").own(true, a, a.text("\xff\xff"), a.end()), room, "\xff\xff")
	}
	for _, count := range []int{18, 19} {
		d := stream("").start(true, 2) + stream(counted(257, 1, count))
		for _, symbol := range order[:count] {
			d += stream(number(having(19, 1, 1, 18)[symbol], 3))
		}
		// 18 is 1, and 138 and 118 noughts; the length 1 is 0, of the end and of a distance; then the end.
		d += stream("1" + number(127, 7) + "1" + number(107, 7) + "00" + "0")
		expectRight(t, d, 0, "")
	}
}

// P5.1: codes of all lengths from 1 to 15.
func TestLongCodes(t *testing.T) {
	stairs := []int{1, 2, 3, 4, 5, 6, 7, 8, 9, 10, 11, 12, 13, 14, 15, 15}
	a := ownAlphabet(append(make([]int, 241), stairs...), stairs)
	var s string
	for c := 255; c >= 241; c-- {
		s += string([]byte{byte(c)})
	}
	expectRight(t, stream("").own(true, a, a.text(s), a.end()), room, s)
	x := source(3)
	behind := motley(&x, 256, 256)
	b := ownAlphabet(append(having(257, 1, 256), stairs...), stairs[:15])
	// One code of length 15 is missing among the distances, and there is one 1 too many among the symbols.
	expectWrong(t, stream("").own(true, b), room, api.ErrCode)
	c := ownAlphabet(having(258, 1, 256, 257), stairs)
	for far, p := range ruledDistances()[:16] {
		d := stream("").stored(false, behind).own(true, c, c.symbols[257], c.distances[far], number(0, p.bits), c.end())
		expectRight(t, d, room, behind+strings.Repeat(behind[256-p.least:], 3)[:3])
	}
}

// repeatsBlock is the beginning of a block whose lengths are told by items of the plain meta.
func repeatsBlock(symbols int, distances int, items ...string) stream {
	return stream("").start(true, 2) + stream(headed(symbols, distances, plainMeta(), items...))
}

// noughts are 138 and 111 of them: 8 symbols of 257 are left.
func noughts() string {
	return metaItem(18, 127) + metaItem(18, 100)
}

// P5.1: repeats of lengths, of 3 to 6, 3 to 10 and 11 to 138, that just meet their number.
func TestRepeats(t *testing.T) {
	a := alphabet{symbols: spelled(append(make([]int, 249), slices.Repeat([]int{3}, 8)...))}
	for i, c := range []struct {
		items     string
		distances int
	}{
		{noughts() + each(3) + metaItem(16, 0) + metaItem(16, 1) + each(0), 1},
		{noughts() + each(3, 3) + metaItem(16, 3) + each(0), 1},
		{noughts() + each(3) + metaItem(16, 2) + each(3, 3, 0), 1},
		// Over into the distances, and again the last symbol's length as the first distance's.
		{noughts() + each(3, 3, 3, 3) + metaItem(16, 3) + metaItem(16, 3), 8},
		{noughts() + each(3, 3) + metaItem(16, 3) + metaItem(16, 0) + each(3, 3) + metaItem(16, 0), 8},
		// A nought again, one that was told alone or by a repeat.
		{each(0) + metaItem(16, 3) + metaItem(18, 127) + metaItem(18, 90) + metaItem(16, 0) + each(3) + metaItem(16, 3) + each(3, 0), 1},
		{metaItem(18, 0) + metaItem(17, 0) + metaItem(17, 7) + metaItem(18, 127) + metaItem(18, 63) + metaItem(17, 7) + metaItem(16, 0) + each(3) + metaItem(16, 3) + each(3) + metaItem(17, 0), 3},
		{noughts() + each(3, 3) + metaItem(16, 3) + metaItem(18, 19), 30},
	} {
		d := repeatsBlock(257, c.distances, c.items) + stream(a.text("\xf9\xff\xfa")+a.end())
		if got := raw(d.bytes(), room); got != (answer{"\xf9\xff\xfa", (len(d) + 7) / 8, api.OK}) {
			t.Errorf("%d: %.99q, %d, %d", i, got.out, got.n, got.e)
		}
	}
}

// P5.1: lengths that go beyond their number, be it by one, are refused as soon as it is read how many they are.
func TestLengthsBeyond(t *testing.T) {
	for _, items := range []string{
		noughts() + each(3, 3) + metaItem(16, 3) + metaItem(16, 0),
		noughts() + each(3, 3) + metaItem(16, 3) + metaItem(17, 0),
		noughts() + each(3, 3) + metaItem(16, 3) + metaItem(17, 7),
		noughts() + each(3, 3) + metaItem(16, 3) + metaItem(18, 0),
		noughts() + each(3, 3) + metaItem(16, 3) + metaItem(18, 127),
		noughts() + each(3, 3, 3, 3, 3) + metaItem(16, 2),
		noughts() + each(3, 3, 3, 3) + metaItem(16, 3),
		noughts() + each(3, 3, 3, 3, 3, 3) + metaItem(17, 1),
	} {
		expectWrong(t, repeatsBlock(257, 1, items), room, api.ErrField)
		expectWrong(t, repeatsBlock(257, 1, items, strings.Repeat("0", 64)), 0, api.ErrField)
		expectWrong(t, repeatsBlock(257, 1, items, strings.Repeat("1", 64)), 0, api.ErrField)
	}
}

// P5.1: at first nothing is there to be repeated, whatever follows.
func TestRepeatOfNothing(t *testing.T) {
	for further := range 4 {
		expectWrong(t, repeatsBlock(257, 1, metaItem(16, further)), room, api.ErrField)
		expectWrong(t, repeatsBlock(257, 1, metaItem(16, further), strings.Repeat("0", 99)), 0, api.ErrField)
		expectWrong(t, repeatsBlock(286, 30, metaItem(16, further), each(make([]int, 400)...)), room, api.ErrField)
	}
}

// P5.1: where the bytes end behind a symbol that has bits behind it: of 16 at first that is too late to matter.
func TestCutRepeats(t *testing.T) {
	// 0, 16, 17 and 18 are 00, 01, 10 and 11.
	meta := having(19, 2, 0, 16, 17, 18)
	for _, c := range []struct {
		items  string
		blocks int
		e      api.Errno
	}{
		{"01", 3, api.ErrField},
		{"10", 3, api.ErrShort},
		{"11", 3, api.ErrShort},
		{"0001", 5, api.ErrShort},
		{"1001001", 4, api.ErrShort},
	} {
		d := shifted(c.blocks).start(true, 2) + stream(headed(257, 1, meta, c.items))
		if len(d)%8 != 0 {
			t.Fatalf("%s: %d bits behind a byte", c.items, len(d)%8)
		}
		expectWrong(t, d, room, c.e)
	}
}

// P5.1: no code for the end of a block is told when all lengths were read, and ahead of codes that may be no table.
func TestNoEnd(t *testing.T) {
	for _, c := range []struct{ symbols, distances []int }{
		{make([]int, 257), []int{0}},
		{having(257, 1, 'a', 'b'), []int{0}},
		{having(257, 1, 'a'), []int{1, 1}},
		{having(286, 1, 'a', 285), []int{0}},
		{having(257, 1, 'a', 'b', 'c'), []int{0}},
		{having(257, 2, 'a', 'b', 'c'), []int{0}},
		{having(257, 1, 'a', 'b'), []int{1, 1, 1}},
		{having(257, 1, 'a', 'b'), []int{2}},
	} {
		d := stream("").own(true, ownAlphabet(c.symbols, c.distances))
		expectWrong(t, d, room, api.ErrField)
		expectWrong(t, d, 0, api.ErrField)
		expectWrong(t, d+stream(strings.Repeat("0", 99)), 0, api.ErrField)
		expectWrong(t, d.cut(), room, api.ErrShort)
	}
}

// P5.1: codes of a block that may be no table: too many, or not full.
func TestCodesThatAreNone(t *testing.T) {
	full := having(257, 1, 'a', 256)
	for _, c := range []struct{ symbols, distances []int }{
		{having(257, 1, 'a', 'b', 256), []int{0}},
		{having(257, 2, 'a', 'b', 256), []int{0}},
		{having(257, 2, 256), []int{0}},
		{having(257, 15, 256), []int{0}},
		{slices.Repeat([]int{8}, 257), []int{0}},
		{slices.Repeat([]int{9}, 286), slices.Repeat([]int{5}, 30)},
		{full, []int{2}},
		{full, []int{1, 1, 1}},
		{full, []int{1, 2}},
		{full, []int{0, 0, 15}},
		{full, slices.Repeat([]int{5}, 30)},
	} {
		d := stream("").own(true, ownAlphabet(c.symbols, c.distances))
		expectWrong(t, d, room, api.ErrCode)
		expectWrong(t, d+stream(strings.Repeat("0", 99)), 0, api.ErrCode)
		expectWrong(t, d.cut(), room, api.ErrShort)
	}
}

// P5.1: codes of lengths that may be no table are told ahead of all lengths.
func TestLengthsCodesThatAreNone(t *testing.T) {
	for _, meta := range [][]int{
		having(19, 1, 0, 1, 2), having(19, 2, 0), having(19, 7, 16), having(19, 2, 0, 1, 18), having(19, 7, 0, 1, 2, 3, 4, 5, 6, 7, 8, 9, 10, 11, 12, 13, 14, 15, 16, 17, 18),
		having(19, 4, 0, 1, 2, 3, 4, 5, 6, 7, 8, 9, 10, 11, 12, 13, 14, 15, 16),
	} {
		d := stream("").start(true, 2) + stream(headed(257, 1, meta))
		expectWrong(t, d, room, api.ErrCode)
		expectWrong(t, d+stream(strings.Repeat("0", 999)), 0, api.ErrCode)
	}
}

// P5.1: bits that no code begins with, of lengths, of symbols and of distances.
func TestBitsOfNoCode(t *testing.T) {
	// One code of lengths, and none: of none it is told ahead of any bit.
	one := headed(257, 1, having(19, 1, 0))
	expectWrong(t, stream("").start(true, 2)+stream(one+"1"), room, api.ErrCode)
	expectWrong(t, stream("").start(true, 2)+stream(one+strings.Repeat("0", 257)+"1"), room, api.ErrCode)
	expectWrong(t, stream("").start(true, 2)+stream(one+strings.Repeat("0", 258)), room, api.ErrField)
	none := shifted(1).start(true, 2) + stream(headed(257, 1, make([]int, 19)))
	expectWrong(t, none, room, api.ErrCode)
	expectWrong(t, none+stream(strings.Repeat("0", 999)), room, api.ErrCode)

	alone := ownAlphabet(having(257, 1, 256), []int{0})
	expectRight(t, stream("").own(true, alone, "0"), 0, "")
	expectWrong(t, stream("").own(true, alone, "1"), 0, api.ErrCode)

	// Of one distance the bit 1 is none; of none, any.
	for _, c := range []struct {
		distances []int
		bits      string
	}{{[]int{1}, "1"}, {[]int{0, 0, 1, 0}, "1"}, {[]int{0}, "0"}, {[]int{0}, "1"}, {make([]int, 30), ""}} {
		a := ownAlphabet(having(286, 2, 'a', 'b', 256, 285), c.distances)
		d := stream("").own(true, a, a.text("ab"), a.symbols[285], c.bits)
		expectWrong(t, d, room, api.ErrCode)
		expectWrong(t, d, 2, api.ErrCode)
		expectRight(t, stream("").own(true, a, a.text("ab"), a.end()), 2, "ab")
	}
}

// P5.1, P5.3: what is just most bytes is told, and what would be one more is not, of blocks of all kinds.
func TestRoomJustMet(t *testing.T) {
	for _, p := range pieces() {
		for blocks := range 3 {
			out := strings.Repeat("\xff", blocks) + p.out
			// Blocks of no bytes need no room.
			d := p.add(shifted(blocks), false).stored(false, "").fixed(true, common.end())
			expectRight(t, d, len(out), out)
			for most := range len(out) {
				expectWrong(t, d, most, api.ErrLimit)
			}
		}
	}
}

// P5.1, P5.3: 2^18 bytes are the most that there may be, and one more is refused, by a byte, a copy and a stored block.
func TestMostRoom(t *testing.T) {
	const lead = 1 << 18 % 258
	items := common.text(strings.Repeat("m", lead)) + strings.Repeat(common.copy(258, 1), room/258)
	d := stream("").fixed(false, items, common.end())
	out := strings.Repeat("m", room)
	expectRight(t, d.stored(true, ""), room, out)
	expectRight(t, d.fixed(true, common.end()), room, out)
	expectWrong(t, d.stored(true, ""), room-1, api.ErrLimit)
	expectWrong(t, d.stored(true, "x"), room, api.ErrLimit)
	expectWrong(t, d.fixed(true, common.text("x"), common.end()), room, api.ErrLimit)
	expectWrong(t, d.fixed(true, common.copy(3, 1), common.end()), room, api.ErrLimit)
}

// P5.1: a byte too much is told as it stands there, whether or not there is more.
func TestByteTooMuch(t *testing.T) {
	for blocks := range 8 {
		d := shifted(blocks).fixed(true, common.text("ab"), common.symbols['c'])
		expectWrong(t, d, blocks+2, api.ErrLimit)
		expectWrong(t, d+stream(common.symbols[286]), blocks+2, api.ErrLimit)
		expectWrong(t, d.cut(), blocks+2, api.ErrShort)
	}
}

// P5.1: a copy too long is told when its distance was read, if that is right.
func TestCopyTooLong(t *testing.T) {
	for blocks := range 8 {
		d := shifted(blocks).fixed(true, common.text("abcdef"))
		for n := 3; n <= 258; n += 17 {
			most := blocks + 6 + n - 1
			whole := d + stream(common.copy(n, 5))
			expectWrong(t, whole, most, api.ErrLimit)
			expectWrong(t, whole, blocks+6, api.ErrLimit)
			expectWrong(t, whole+stream(common.symbols[287]), most, api.ErrLimit)
			expectRight(t, whole+stream(common.end()), most+1, strings.Repeat("\xff", blocks)+"abcdef"+strings.Repeat("bcdef", n)[:n])
			for cut := len(whole) / 8 * 8; cut > len(d); cut -= 8 {
				if cut < len(whole) {
					expectWrong(t, whole[:cut], most, api.ErrShort)
				}
			}
			expectWrong(t, d+stream(common.length(n)+common.distances[30]), blocks+6, api.ErrField)
			expectWrong(t, d+stream(common.copy(n, blocks+7)), blocks+6, api.ErrField)
		}
	}
}

// P5.1: a stored block too long is told when its lengths were read, ahead of its bytes.
func TestStoredTooLong(t *testing.T) {
	for _, most := range []int{0, 1, 5, 65534} {
		d := stream("").lengths(true, most+1, 65534-most)
		expectWrong(t, d, most, api.ErrLimit)
		expectWrong(t, d+stream(digits("a")), most, api.ErrLimit)
		expectWrong(t, d.cut(), most, api.ErrShort)
		expectWrong(t, d, most+1, api.ErrShort)
		ahead := stream("").stored(false, "12").lengths(true, most+1, 65534-most)
		expectWrong(t, ahead, most+2, api.ErrLimit)
		expectWrong(t, ahead, most+3, api.ErrShort)
	}
}

// P5.1: a block of the kind 3 is told where it stands, behind any other, and no earlier than those.
func TestKindThree(t *testing.T) {
	for _, p := range pieces() {
		for _, last := range []bool{false, true} {
			d := p.add("", false).start(last, 3)
			expectWrong(t, d, room, api.ErrField)
			if p.out != "" {
				expectWrong(t, d, len(p.out)-1, api.ErrLimit)
			}
		}
	}
}

// P5.3: what stands behind the end, be it in its last byte, turns nothing.
func TestBehindTheEnd(t *testing.T) {
	x := source(17)
	tails := []string{"\x00", "\xff", "\x03\x00", "\x07", motley(&x, 400, 256)}
	for _, p := range pieces() {
		for blocks := range 8 {
			d := p.add(shifted(blocks), true)
			want := answer{strings.Repeat("\xff", blocks) + p.out, (len(d) + 7) / 8, api.OK}
			for _, tail := range tails {
				expect(t, d.bytes()+tail, room, want)
				expect(t, d.filled("1").bytes()+tail, len(want.out), want)
			}
		}
	}
	for c := range 256 {
		expect(t, "\x03\x00"+string([]byte{byte(c)}), 0, answer{"", 2, api.OK})
		expect(t, "\x03"+string([]byte{byte(c) &^ 3}), 0, answer{"", 2, api.OK})
	}
}

// wrapped is packed bytes in the wrapping, with the library's sum of what they are.
func wrapped(packed string, out string) string {
	sum := adler32.Checksum([]byte(out))
	return "\x78\x9c" + packed + string([]byte{byte(sum >> 24), byte(sum >> 16), byte(sum >> 8), byte(sum)})
}

// P5.2: what is wrapped, by hand, and of blocks of all kinds.
func TestOpen(t *testing.T) {
	expectOpen(t, "\x78\x9c\x4b\x4c\x4a\x06\x00\x02\x4d\x01\x27", 3, "abc", api.OK)
	expectOpen(t, "\x78\x9c\x03\x00\x00\x00\x00\x01", 0, "", api.OK)
	expectOpen(t, "\x08\x1d\x01\x01\x00\xfe\xffa\x00\x62\x00\x62", 1, "a", api.OK)
	for _, p := range pieces() {
		for blocks := range 8 {
			out := strings.Repeat("\xff", blocks) + p.out
			d := p.add(shifted(blocks), true)
			expectOpen(t, wrapped(d.bytes(), out), len(out), out, api.OK)
			expectOpen(t, wrapped(d.filled("1").bytes(), out), room, out, api.OK)
		}
	}
}

// P5.2: all two first bytes; wrong ones are told ahead of anything behind them.
func TestHeads(t *testing.T) {
	right := map[string]bool{}
	for n := 0; n < 1<<16; n += 31 {
		if slices.Contains([]int{0x08, 0x18, 0x28, 0x38, 0x48, 0x58, 0x68, 0x78}, n/256) && n/32%2 == 0 {
			right[string([]byte{byte(n / 256), byte(n % 256)})] = true
		}
	}
	for n := range 1 << 16 {
		head := string([]byte{byte(n / 256), byte(n % 256)})
		if right[head] {
			expectOpen(t, head+"\x4b\x04\x00\x00\x62\x00\x62", 1, "a", api.OK)
			expectOpen(t, head, room, "", api.ErrShort)
			continue
		}
		expectOpen(t, head+"\x4b\x04\x00\x00\x62\x00\x62", 1, "", api.ErrField)
		expectOpen(t, head+"\x4b\x04\x00\x00\x62\x00\x63", 0, "", api.ErrField)
		expectOpen(t, head, room, "", api.ErrField)
	}
	expectOpen(t, "", room, "", api.ErrShort)
	for n := range 256 {
		expectOpen(t, string([]byte{byte(n)}), room, "", api.ErrShort)
	}
}

// P5.2: the sum must be there, be the right one, and be the end; told in that order.
func TestSums(t *testing.T) {
	for _, p := range pieces() {
		s := wrapped(p.add("", true).bytes(), p.out)
		for n := range len(s) {
			expectOpen(t, s[:n], room, "", api.ErrShort)
		}
		for bit := range 32 {
			b := []byte(s)
			b[len(b)-1-bit/8] ^= 1 << (bit % 8)
			expectOpen(t, string(b), room, "", api.ErrSum)
			expectOpen(t, string(b)+"x", room, "", api.ErrSum)
			expectOpen(t, string(b[:len(b)-1]), room, "", api.ErrShort)
		}
		for _, tail := range []string{"\x00", "x", s, strings.Repeat("\x00", 99)} {
			expectOpen(t, s+tail, room, "", api.ErrField)
		}
	}
	// The highest byte is the first, and the sum is of what is told, not of the packed bytes.
	expectOpen(t, "\x78\x9c\x4b\x4c\x4a\x06\x00\x27\x01\x4d\x02", room, "", api.ErrSum)
	packed := stream("").stored(true, "abc").bytes()
	expectOpen(t, "\x78\x9c"+packed+wrapped("", packed)[2:], room, "", api.ErrSum)
}

// P5.2: Raw's errors of what stands behind the first two bytes, ahead of those of the sum.
func TestOpenTellsRawsErrors(t *testing.T) {
	for _, c := range []struct {
		d    stream
		most int
		e    api.Errno
	}{
		{stream("").start(true, 3), room, api.ErrField},
		{stream("").lengths(true, 1, 1), room, api.ErrField},
		{stream("").lengths(true, 99, 65436), room, api.ErrShort},
		{stream("").stored(true, "abc"), 2, api.ErrLimit},
		{stream("").fixed(true, common.text("abc"), common.end()), 2, api.ErrLimit},
		{stream("").fixed(true, common.text("a"), common.copy(3, 2)), room, api.ErrField},
		{stream("").fixed(true, common.symbols[287]), room, api.ErrField},
		{stream("").own(true, ownAlphabet(having(257, 1, 'a'), []int{0})), room, api.ErrField},
		{stream("").own(true, ownAlphabet(having(257, 2, 256), []int{0})), room, api.ErrCode},
		{stream("").own(true, ownAlphabet(having(257, 1, 256), []int{0}), "1"), room, api.ErrCode},
	} {
		expectWrong(t, c.d, c.most, c.e)
		expectOpen(t, "\x78\x9c"+c.d.bytes(), c.most, "", c.e)
		expectOpen(t, wrapped(c.d.bytes(), "x"), c.most, "", c.e)
		expectOpen(t, wrapped(c.d.bytes(), "x")+"behind", c.most, "", c.e)
		expectOpen(t, "\x78\x9d"+c.d.bytes(), c.most, "", api.ErrField)
	}
}

// texts are of kinds that the library packs in different ways.
func texts() []string {
	x := source(2463534242)
	l := []string{"", "a", "abc", strings.Repeat("a", 1000), strings.Repeat("to be or not to be, ", 300)}
	for _, kinds := range []int{1, 2, 5, 40, 256} {
		for _, n := range []int{10, 1000, 70000} {
			l = append(l, motley(&x, n, kinds))
		}
	}
	return append(l, motley(&x, room, 100), motley(&x, 200000, 256)+strings.Repeat("z", 60000))
}

// P5.1, P5.2: what the library packs, in all its ways.
func TestWhatTheLibraryPacks(t *testing.T) {
	for _, s := range texts() {
		for _, level := range []int{-2, 0, 1, 2, 6, 9} {
			var b bytes.Buffer
			w, _ := flate.NewWriter(&b, level)
			half := len(s) / 2
			io.WriteString(w, s[:half])
			// A flush ends a block, and lays a stored one of no bytes behind it.
			w.Flush()
			io.WriteString(w, s[half:])
			w.Close()
			expect(t, b.String(), len(s), answer{s, b.Len(), api.OK})
			expect(t, b.String()+"tail", room, answer{s, b.Len(), api.OK})
			if len(s) > 0 {
				expect(t, b.String(), len(s)-1, answer{e: api.ErrLimit})
			}
			b.Reset()
			z, _ := zlib.NewWriterLevel(&b, level)
			io.WriteString(z, s)
			z.Close()
			expectOpen(t, b.String(), len(s), s, api.OK)
			expectOpen(t, b.String()+"\x00", len(s), "", api.ErrField)
		}
	}
}

// seeds are right streams whose bits may be turned into wrong ones.
func seeds() []string {
	x := source(1234567)
	var l []string
	for _, p := range pieces() {
		for _, q := range pieces()[3:] {
			l = append(l, q.add(p.add("", false), true).bytes())
		}
	}
	for _, kinds := range []int{3, 20, 256} {
		var b bytes.Buffer
		w, _ := flate.NewWriter(&b, 9)
		io.WriteString(w, motley(&x, 400, kinds))
		w.Close()
		l = append(l, b.String())
	}
	for _, a := range []alphabet{ownAlphabet(having(258, 2, 'a', 'b', 256, 257), []int{1}), ownAlphabet(having(259, 2, 'a', 256, 257, 258), []int{2, 2, 2, 2})} {
		l = append(l, stream("").own(true, a, a.text("aa"), a.symbols[257]+"0", a.text("a"), a.end()).bytes())
	}
	return l
}

// altered is s with some bits turned, cut, or with bytes behind.
func altered(x *source, s string) string {
	b := []byte(s)
	for range x.below(4) {
		// Most of what is told wrong stands near the beginning.
		at := x.below(1 + x.below(len(b)))
		b[at] ^= 1 << x.below(8)
	}
	switch x.below(4) {
	case 0:
		b = b[:x.below(len(b)+1)]
	case 1:
		b = append(b, motley(x, x.below(9), 256)...)
	}
	return string(b)
}

// P5.1, P5.2, P5.3, P1: streams with bits turned, in all kinds of room, against the chapter's words bit by bit.
func TestAlteredStreams(t *testing.T) {
	x := source(424242)
	met := map[api.Errno]int{}
	for _, seed := range seeds() {
		for range 250 {
			s := altered(&x, seed)
			most := room
			if x.below(3) == 0 {
				most = x.below(400)
			}
			want := told(s, most)
			met[want.e]++
			expect(t, s, most, want)
			if want.e == api.OK {
				expectOpen(t, wrapped(s[:want.n], want.out), most, want.out, api.OK)
				expectOpen(t, wrapped(s[:want.n], want.out+"x"), most, "", api.ErrSum)
			} else {
				expectOpen(t, "\x78\x01"+s, most, "", want.e)
			}
		}
	}
	for _, e := range []api.Errno{api.OK, api.ErrShort, api.ErrField, api.ErrCode, api.ErrLimit} {
		if met[e] < 50 {
			t.Errorf("the error %d was met %d times only", e, met[e])
		}
	}
}

// P1, P5.1: any bytes, with each kind of a first block, and all texts of up to two bytes.
func TestAnyBytes(t *testing.T) {
	x := source(777)
	for i := range 6000 {
		b := []byte(motley(&x, 1+x.below(120), 256))
		b[0] = b[0]&^7 | byte(i%8)
		expect(t, string(b), i%300, told(string(b), i%300))
	}
	for n := range 1 << 16 {
		s := string([]byte{byte(n), byte(n >> 8)})
		expect(t, s, 5, told(s, 5))
	}
	for n := range 256 {
		s := string([]byte{byte(n)})
		expect(t, s, 5, told(s, 5))
	}
}

// R3, R4: a second call answers the same, and calls between do not matter.
func TestSecondCalls(t *testing.T) {
	for _, p := range pieces() {
		s := p.add("", true).bytes()
		want := answer{p.out, len(s), api.OK}
		expect(t, s, room, want)
		Raw(s[:len(s)-1], room)
		Raw("\x07", room)
		Raw(s, -1)
		Open(s, room)
		expect(t, s, room, want)
		expectOpen(t, wrapped(s, p.out), room, p.out, api.OK)
		expect(t, s, room, want)
	}
}
