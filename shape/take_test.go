package shape

import (
	"fmt"
	"slices"
	"strings"
	"testing"

	"celluloid/api"
	"celluloid/bits"
)

// P9.2, P9.3, R2: readers that are not right are ErrArg, ahead of all else, whatever their bytes say.
func TestTakeFromReadersThatAreNotRight(t *testing.T) {
	for _, s := range []string{"", "\x00", "\x00\x00", "\x00\x40\x00", "\x00\xc8\x50\x00", strings.Repeat("\xff", 40), strings.Repeat("\x00", 40)} {
		for _, at := range []int{-1, -2, -7, -8, -9, -8 * len(s), least, least + 1, most, most - 7, 1 << 32, -1 << 32, 8*len(s) + 1, 8*len(s) + 7, 8*len(s) + 8} {
			if at >= 0 && at <= 8*len(s) {
				continue
			}
			for _, p := range []beside{{}, {15, 15, Plain}, {1, 1, Bare}, {16, 0, Any}, {0, 0, 3}} {
				expectNot(t, p, bits.Reader{S: s, At: at}, api.ErrArg)
			}
			expectNoShape(t, bits.Reader{S: s, At: at}, api.ErrArg)
		}
	}
}

// P9.2, P9.3: bits that end at each place ahead of the end are ErrShort, from every bit of the byte ahead.
func TestTakeOfBitsThatEnd(t *testing.T) {
	d := dice(5)
	for i := range 120 {
		p := d.beside()
		s := p.wordsPut(d.records(p, i%7))
		for n := range len(s) {
			expectNot(t, p, bits.Reader{S: s[:n]}, api.ErrShort)
			expectNot(t, p, bits.Reader{S: "q" + s[:n], At: 1 + n%8}, api.ErrShort)
		}
		s = shapeBytes(d.shape(i % 7))
		for n := range len(s) {
			expectNoShape(t, bits.Reader{S: s[:n]}, api.ErrShort)
			expectNoShape(t, bits.Reader{S: "q" + s[:n], At: 1 + n%8}, api.ErrShort)
		}
	}
	expectNot(t, beside{}, bits.Reader{}, api.ErrShort)
	expectNot(t, beside{}, bits.Reader{S: "\x00\x00", At: 16}, api.ErrShort)
	expectNot(t, beside{}, bits.Reader{S: "\x00\x00", At: 9}, api.ErrShort)
	expectNot(t, beside{}, bits.Reader{S: "\x00\x00", At: 1}, api.ErrShort)
	expectNoShape(t, bits.Reader{}, api.ErrShort)
}

// filled lays Moves between digits, of so many bits that all come to whole bytes: so the bits end just behind d.
func filled(ahead string, d string) string {
	for n := range 31 {
		for _, more := range []string{"", "000001 00000", "000001 00000 000001 00000"} {
			pad := strings.ReplaceAll(more+"000001"+digitsIn(5, n)+strings.Repeat("0", 2*n), " ", "")
			if (len(ahead)+len(pad)+len(d))%8 == 0 {
				return ahead + pad + d
			}
		}
	}
	panic("no Move fills it up")
}

// P9.2: of each record, the bits end behind each of its digits, at just that bit.
func TestTakeOfBitsThatEndWithinARecord(t *testing.T) {
	for _, p := range []beside{{3, 5, Any}, {0, 0, Any}} {
		head := styleWidths(p.fills, p.strokes)
		for _, v := range []api.Record{move, moves(0, 0), sets(p.fills, p.fills, p.strokes), sets(0, -1, -1), sets(-1, 0, -1), sets(-1, -1, 0), line, lines(0, 5), lines(5, 0), lines(0, 0), curve, curves(0, 0, 0, 0)} {
			d := p.digits(v)
			for n := range len(d) {
				expectNot(t, p, bits.Reader{S: inBytes(filled(head, d[:n]))}, api.ErrShort)
			}
			// The end, of which one digit at least is missing.
			for n := range 6 {
				expectNot(t, p, bits.Reader{S: inBytes(filled(head, d+"000000"[:n]))}, api.ErrShort)
			}
			s := inBytes(filled(head, d+"000000"))
			if got := expectAsTheWordsSay(t, p, bits.Reader{S: s}); got != api.OK {
				t.Errorf("%+v: error %d", v, got)
			}
		}
		for n := range 6 {
			expectNot(t, p, bits.Reader{S: inBytes(filled(head, "010000"[:n]))}, api.ErrShort)
		}
	}
}

// told are the digits of a record that tells several things, in the widths told: the numbers are nil if they are not told.
type told struct {
	move              *api.Point
	moveBits          int
	left, right, line int
	fillBits          int
	lineBits          int
	fresh             *api.Record
	nextFill          int
	nextLine          int
}

// digits of it, ahead of which so many stand: the lists begin at a whole byte.
func (x told) digits(ahead int) string {
	flag := func(holds bool) string {
		if holds {
			return "1"
		}
		return "0"
	}
	d := "0" + flag(x.fresh != nil) + flag(x.line >= 0) + flag(x.right >= 0) + flag(x.left >= 0) + flag(x.move != nil)
	if x.move != nil {
		d += digitsIn(5, x.moveBits) + digitsIn(x.moveBits, x.move.X, x.move.Y)
	}
	for _, v := range []int{x.left, x.right} {
		if v >= 0 {
			d += digitsIn(x.fillBits, v)
		}
	}
	if x.line >= 0 {
		d += digitsIn(x.lineBits, x.line)
	}
	if x.fresh == nil {
		return d
	}
	d += strings.Repeat("0", (8-(ahead+len(d))%8)%8)
	return d + byteDigits(listBytes(x.fresh.Fills, x.fresh.Strokes)) + digitsIn(4, x.nextFill, x.nextLine)
}

// records that are taken of it.
func (x told) records() (l []api.Record) {
	if x.fresh != nil {
		l = append(l, *x.fresh)
	}
	if x.move != nil {
		l = append(l, moves(x.move.X, x.move.Y))
	}
	if x.left >= 0 || x.right >= 0 || x.line >= 0 {
		l = append(l, sets(x.left, x.right, x.line))
	}
	return l
}

// nothing is told.
func nothing() told {
	return told{left: -1, right: -1, line: -1, fillBits: 4, lineBits: 4}
}

// all is told that the bits of n say: new styles, Line, Right, Left, Move.
func some(n int) told {
	x := nothing()
	x.moveBits, x.nextFill, x.nextLine = 7, 2, 1
	if n&1 > 0 {
		x.move = &api.Point{X: -5, Y: 6}
	}
	if n&2 > 0 {
		x.left = 1
	}
	if n&4 > 0 {
		x.right = 2
	}
	if n&8 > 0 {
		x.line = 1
	}
	if n&16 > 0 {
		x.fresh = &fresh
	}
	return x
}

// P9.2: a record may tell each of the things that there are beside each other one: taken as a Fresh, a Move and a Set, in this order.
func TestRecordsThatTellSeveralThings(t *testing.T) {
	for n := 1; n < 32; n++ {
		x := some(n)
		for kind := Any; kind <= Bare; kind++ {
			p := beside{3, 3, kind}
			d := "0100 0100"
			d = strings.ReplaceAll(d, " ", "")
			d += x.digits(len(d))
			s := inBytes(d + "000000")
			if n >= 16 && kind != Any || n >= 2 && n != 16 && kind == Bare {
				expectNot(t, p, bits.Reader{S: s}, api.ErrField)
				continue
			}
			expectTaken(t, p, bits.Reader{S: s}, x.records(), 8*len(s))
			expectAsTheWordsSay(t, p, bits.Reader{S: s})
			for i := range len(s) {
				expectNot(t, p, bits.Reader{S: s[:i]}, api.ErrShort)
			}
		}
	}
	// By hand: 0, 0, 0, 1, 0, 1; 2 bits of 1 and -1; Right 1 in 1 bit; then the end.
	s := inBytes("0001 0000 000101 00010 01 11 1 000000")
	expectTaken(t, beside{1, 0, Plain}, bits.Reader{S: s}, []api.Record{moves(1, -1), sets(-1, 1, -1)}, 8*len(s))
	// All five: 0, 1, 1, 1, 1, 1; a Move of no width; Left 2, Right 1 and Line 3 in the widths before; the lists; the new widths; a Set in these.
	s = inBytes("0011 0010 011111 00000 010 001 11 00000 00000000 00000011" + digitsIn(144, 0) + "0000 0010 001000 11 000000")
	expectNot(t, beside{7, 3, Any}, bits.Reader{S: s}, api.ErrField)
	s = inBytes("0011 0010 011111 00000 000 000 11 00000 00000000 00000011" + digitsIn(144, 0) + "0000 0010 001000 11 000000")
	expectTaken(t, beside{7, 3, Any}, bits.Reader{S: s}, []api.Record{freshes(0, 3), moves(0, 0), sets(0, 0, 3), sets(-1, -1, 3)}, 8*len(s))
}

// P9.2: any widths may be told, of styles and of numbers, as long as the numbers fit.
func TestTakeOfAnyWidths(t *testing.T) {
	for fillBits := range 16 {
		for lineBits := range 16 {
			p := beside{2, 9, Plain}
			head := digitsIn(4, fillBits, lineBits)
			for _, x := range [][3]int{{0, 1, 2}, {2, -1, 9}, {-1, 2, 0}, {-1, -1, 9}, {1, 0, -1}, {3, 0, 0}, {0, 3, 0}, {0, 0, 10}, {0, 0, 1 << 14}, {1 << 14, 0, 0}} {
				if max(x[0], x[1]) >= 1<<fillBits || x[2] >= 1<<lineBits {
					continue
				}
				v := nothing()
				v.left, v.right, v.line, v.fillBits, v.lineBits = x[0], x[1], x[2], fillBits, lineBits
				s := inBytes(head + v.digits(8) + "000000")
				if x[0] > 2 || x[1] > 2 || x[2] > 9 {
					expectNot(t, p, bits.Reader{S: s}, api.ErrField)
				} else {
					expectTaken(t, p, bits.Reader{S: s}, v.records(), 8*len(s))
				}
			}
		}
	}
	for n := range 32 {
		for _, at := range []api.Point{{}, {X: 1, Y: -1}, {X: -9}, {Y: 1 << 20}, {X: -1 << 20}} {
			if wordsWidth(at.X, at.Y) <= n {
				s := inBytes("00000000 000001" + digitsIn(5, n) + digitsIn(n, at.X, at.Y) + "000000")
				expectTaken(t, beside{}, bits.Reader{S: s}, []api.Record{moves(at.X, at.Y)}, 8*len(s))
			}
		}
	}
	for n := 2; n <= 17; n++ {
		top := 1<<(n-1) - 1
		for _, x := range []api.Point{{}, {X: 1}, {Y: 1}, {X: -1, Y: 1}, {X: top, Y: -top - 1}, {X: -top - 1, Y: top}} {
			for _, d := range []string{"1" + digitsIn(n, x.X, x.Y), "00" + digitsIn(n, x.X), "01" + digitsIn(n, x.Y)} {
				want := x
				if d[:2] == "00" {
					want.Y = 0
				} else if d[:2] == "01" {
					want.X = 0
				}
				s := inBytes("00000000 11" + digitsIn(4, n-2) + d + "000000")
				expectTaken(t, beside{}, bits.Reader{S: s}, []api.Record{lines(want.X, want.Y)}, 8*len(s))
				expectAsTheWordsSay(t, beside{}, bits.Reader{S: s})
			}
			s := inBytes("00000000 10" + digitsIn(4, n-2) + digitsIn(n, x.X, x.Y, -1, x.X) + "000000")
			expectTaken(t, beside{}, bits.Reader{S: s}, []api.Record{curves(x.X, x.Y, -1, x.X)}, 8*len(s))
		}
	}
}

// P9.2: widths of new styles, too: what follows stands in them, whatever they must be.
func TestTakeOfAnyWidthsBehindAFresh(t *testing.T) {
	for fillBits := range 16 {
		for lineBits := range 16 {
			x := nothing()
			x.fresh, x.nextFill, x.nextLine = &fresh, fillBits, lineBits
			d := "00000000" + x.digits(8)
			y := nothing()
			y.left, y.right, y.line, y.fillBits, y.lineBits = min(2, 1<<fillBits-1), 0, min(1, 1<<lineBits-1), fillBits, lineBits
			s := inBytes(d + y.digits(len(d)) + "000000")
			expectTaken(t, beside{}, bits.Reader{S: s}, append(x.records(), y.records()...), 8*len(s))
			if fillBits > 1 {
				y.left = 3
				expectNot(t, beside{15, 15, Any}, bits.Reader{S: inBytes(d + y.digits(len(d)) + "000000")}, api.ErrField)
			}
		}
	}
}

// P9.2: new styles in Plain and Bare records, and styles in Bare ones, are told when the bits are read: ahead of what they tell of.
func TestTakeOfStylesThatMayNotBe(t *testing.T) {
	for n := 1; n < 32; n++ {
		for kind := Any; kind <= Bare; kind++ {
			p := beside{1, 1, kind}
			want := api.ErrShort
			if n >= 16 && kind != Any || n&14 > 0 && kind == Bare {
				want = api.ErrField
			}
			head := "00010001" + "0" + digitsIn(5, n)
			// Behind the bits there is nothing, or what is not right. What is told has a bit at least.
			s := inBytes(filled("00010001", head[8:]))
			expectNot(t, p, bits.Reader{S: s}, want)
			if want == api.ErrField {
				for _, behind := range []string{"", "1", strings.Repeat("1", 80), strings.Repeat("0", 80), "11111" + strings.Repeat("10", 40)} {
					expectNot(t, p, bits.Reader{S: inBytes(head + behind)}, api.ErrField)
				}
			}
			// The bits themselves are not all there.
			for cut := range 5 {
				expectNot(t, p, bits.Reader{S: inBytes(filled("00010001", "0"+digitsIn(5, n)[:cut]))}, api.ErrShort)
			}
		}
	}
}

// P9.2: a style beyond those that there are then, and X or Y of a Move that is not right, are told when all of the record was read: the end ahead of them, and layer 8's errors, go ahead of them.
func TestTakeTellsNumbersWhenAllWasRead(t *testing.T) {
	far := []api.Point{{X: 1<<20 + 1}, {Y: 1<<20 + 1}, {X: -1<<20 - 1}, {Y: -1<<20 - 1}, {X: 1<<30 - 1, Y: -1 << 30}}
	var wrong []told
	for n := range 16 {
		if n&1 > 0 {
			for _, at := range far {
				x := some(n)
				x.move, x.moveBits = &at, 31
				wrong = append(wrong, x)
			}
		}
		for bit, beyond := range map[int]func(*told){2: func(x *told) { x.left = 4 }, 4: func(x *told) { x.right = 15 }, 8: func(x *told) { x.line = 4 }} {
			if n&bit > 0 {
				x := some(n)
				beyond(&x)
				wrong = append(wrong, x)
			}
		}
	}
	p := beside{3, 3, Any}
	for _, x := range wrong {
		d := x.digits(8)
		for cut := range len(d) {
			expectNot(t, p, bits.Reader{S: inBytes(filled("01000100", d[:cut]))}, api.ErrShort)
		}
		expectNot(t, p, bits.Reader{S: inBytes(filled("01000100", d))}, api.ErrField)
		expectNot(t, p, bits.Reader{S: inBytes("01000100" + d)}, api.ErrField)
		expectNot(t, p, bits.Reader{S: inBytes("01000100" + d + "000000")}, api.ErrField)
		// With new styles among it: these are all read ahead of the error, and their own errors told.
		x.fresh, x.nextFill, x.nextLine = &fresh, 4, 4
		s := inBytes("01000100" + x.digits(8))
		for cut := range len(s) {
			expectNot(t, p, bits.Reader{S: s[:cut]}, api.ErrShort)
		}
		expectNot(t, p, bits.Reader{S: s}, api.ErrField)
		lists := byteDigits(listBytes(fresh.Fills, fresh.Strokes))
		ahead := s[:len(s)-1-len(lists)/8]
		expectNot(t, p, bits.Reader{S: ahead + "\x10"}, api.ErrLimit)
		expectNot(t, p, bits.Reader{S: ahead + "\x00\xff"}, api.ErrLimit)
		expectNot(t, p, bits.Reader{S: ahead + "\x01\x01"}, api.ErrField)
		expectNot(t, p, bits.Reader{S: ahead + "\x01\x00"}, api.ErrShort)
	}
}

// P9.2: the styles that there are then are those of a Fresh in the same record, and behind it those of the last one.
func TestTakeOfStylesOfTheSameRecord(t *testing.T) {
	for _, fills := range []int{0, 1, 2, 7, 15} {
		for _, strokes := range []int{0, 1, 2, 7, 15} {
			for _, before := range []int{0, 1, 15} {
				p := beside{before, before, Any}
				brought := freshes(fills, strokes)
				for _, v := range [][3]int{{fills, -1, -1}, {-1, fills, -1}, {-1, -1, strokes}, {fills, fills, strokes}, {fills + 1, -1, -1}, {-1, fills + 1, -1}, {-1, -1, strokes + 1}, {0, 0, 0}, {before, before, before}} {
					x := nothing()
					x.left, x.right, x.line, x.fillBits, x.lineBits = v[0], v[1], v[2], 5, 6
					x.fresh, x.nextFill, x.nextLine = &brought, 4, 4
					d := "01010110" + x.digits(8)
					s := inBytes(d + "000000")
					if max(v[0], v[1]) > fills || v[2] > strokes {
						expectNot(t, p, bits.Reader{S: s}, api.ErrField)
						continue
					}
					expectTaken(t, p, bits.Reader{S: s}, x.records(), 8*len(s))
					y := nothing()
					y.left = fills
					s = inBytes(d + y.digits(len(d)) + "000000")
					expectTaken(t, p, bits.Reader{S: s}, append(x.records(), y.records()...), 8*len(s))
				}
			}
		}
	}
}

// P9.2: layer 8's errors in a Fresh are told where they stand.
func TestTakeOfFreshThatIsNotRight(t *testing.T) {
	far := matrixBytes(api.Matrix{X: 1<<20 + 1})
	for _, c := range []struct {
		lists string
		want  api.Errno
	}{
		{"\x10", api.ErrLimit}, {"\xff\xff", api.ErrLimit}, {"\x00\x10", api.ErrLimit}, {"\x00", api.ErrShort}, {"", api.ErrShort},
		{"\x01\x01", api.ErrField}, {"\x01\x10" + far, api.ErrField}, {"\x01\x10\x00\xc1", api.ErrField}, {"\x01\x40\x00\x00" + far + "\x10", api.ErrField},
		{"\x01\x00\x00\x00\x00\x00\x10", api.ErrLimit}, {"\x00\x01\x00\x00\x00\x00\x00", api.ErrShort}, {"\x00\x00", api.ErrShort},
	} {
		for _, head := range []string{"00000000 010000", "00000000 000001 00000 010000", "00000000 110000 0001 010001 00000", "00000000 011111 00000"} {
			s := inBytes(head) + c.lists
			expectNot(t, beside{0, 0, Any}, bits.Reader{S: s}, c.want)
			if c.want != api.ErrShort {
				expectNot(t, beside{0, 0, Any}, bits.Reader{S: s + "\x00"}, c.want)
				expectNot(t, beside{0, 0, Any}, bits.Reader{S: s + strings.Repeat("\xff", 90)}, c.want)
			}
			expectNot(t, beside{0, 0, Plain}, bits.Reader{S: s}, api.ErrField)
			expectNot(t, beside{0, 0, Bare}, bits.Reader{S: s}, api.ErrField)
		}
	}
}

// P9.2: more than 512 records are ErrLimit, told when one too many is taken: what ends, or is not right, ahead of that goes ahead of it.
func TestTakeOfMoreThanThereMayBe(t *testing.T) {
	p := beside{3, 3, Any}
	// Ahead of the last record stand so many Moves, of 11 digits each.
	ahead := func(n int) string { return "01000100" + strings.Repeat("00000100000", n) }
	taken := func(n int) []api.Record { return slices.Repeat([]api.Record{{Kind: api.Move}}, n) }
	for _, n := range []int{509, 510, 511, 512} {
		s := inBytes(ahead(n) + "000000")
		expectTaken(t, p, bits.Reader{S: s}, taken(n), 8*len(s))
		for m := 1; m < 32; m++ {
			x := some(m)
			d := ahead(n) + x.digits(len(ahead(n)))
			s = inBytes(d + "000000")
			if n+len(x.records()) <= 512 {
				expectTaken(t, p, bits.Reader{S: s}, append(taken(n), x.records()...), 8*len(s))
			} else {
				expectNot(t, p, bits.Reader{S: s}, api.ErrLimit)
				expectNot(t, p, bits.Reader{S: s[:len(d)/8]}, wantWhen(len(d)%8 == 0, api.ErrLimit, api.ErrShort))
			}
			expectAsTheWordsSay(t, p, bits.Reader{S: inBytes(d)})
		}
		for _, v := range []api.Record{line, curve, lines(0, 0)} {
			d := ahead(n) + p.digits(v)
			s = inBytes(d + "000000")
			if n < 512 {
				expectTaken(t, p, bits.Reader{S: s}, append(taken(n), v), 8*len(s))
				continue
			}
			expectNot(t, p, bits.Reader{S: s}, api.ErrLimit)
			expectNot(t, p, bits.Reader{S: inBytes(d + "11111111")}, api.ErrLimit)
			expectNot(t, p, bits.Reader{S: s[:(len(d)-1)/8]}, api.ErrShort)
		}
	}
}

// wantWhen is the one or the other.
func wantWhen(holds bool, a api.Errno, b api.Errno) api.Errno {
	if holds {
		return a
	}
	return b
}

// P9.2: where more than 512 records, and numbers that are not right, stand in one record: a Fresh is taken by then, a Move and a Set are not.
func TestTakeOfTooManyThatAreNotRight(t *testing.T) {
	p := beside{3, 3, Any}
	ahead := func(n int) string { return "01000100" + strings.Repeat("00000100000", n) }
	for _, c := range []struct {
		n     int
		fresh bool
		want  api.Errno
	}{
		{510, false, api.ErrField}, {511, false, api.ErrField}, {512, false, api.ErrField},
		{509, true, api.ErrField}, {510, true, api.ErrField}, {511, true, api.ErrField}, {512, true, api.ErrLimit},
	} {
		for _, change := range []func(*told){
			func(x *told) { x.move = &api.Point{Y: 1<<20 + 1} },
			func(x *told) { x.left = 4 },
			func(x *told) { x.right = 4 },
			func(x *told) { x.line = 4 },
			func(x *told) { x.move = &api.Point{X: -1<<20 - 1}; x.line = 15 },
			func(x *told) { x.move = &api.Point{X: 1}; x.left = 15 },
		} {
			x := nothing()
			x.moveBits, x.nextFill, x.nextLine = 31, 4, 4
			if change(&x); c.fresh {
				x.fresh = &fresh
			}
			d := ahead(c.n)
			d += x.digits(len(d))
			expectNot(t, p, bits.Reader{S: inBytes(d)}, c.want)
			expectNot(t, p, bits.Reader{S: inBytes(d + "000000")}, c.want)
			expectNot(t, p, bits.Reader{S: inBytes(d)[:len(d)/8-1]}, api.ErrShort)
		}
	}
	// The bits that may not be, and layer 8's errors, stand ahead of the record that is one too many.
	for _, kind := range []int{Plain, Bare} {
		expectNot(t, beside{3, 3, kind}, bits.Reader{S: inBytes(ahead(512) + "010000")}, api.ErrField)
	}
	d := aligned(ahead(512) + "010000")
	expectNot(t, p, bits.Reader{S: inBytes(d)}, api.ErrShort)
	expectNot(t, p, bits.Reader{S: inBytes(d) + "\x01\x01"}, api.ErrField)
	expectNot(t, p, bits.Reader{S: inBytes(d) + "\x00\x00"}, api.ErrShort)
	expectNot(t, p, bits.Reader{S: inBytes(d) + "\x00\x00\x00"}, api.ErrLimit)
}

// P9.2: where two errors would do, by hand.
func TestTakeTellsTheFirstError(t *testing.T) {
	for _, c := range []struct {
		p    beside
		d    string
		want api.Errno
	}{
		{beside{0, 0, Plain}, "0000 0000 011111", api.ErrField},                                  // new styles, then the end
		{beside{0, 0, Bare}, "0000 0000 000011", api.ErrField},                                   // a style, then the end
		{beside{0, 0, Bare}, "0000 0000 000001", api.ErrShort},                                   // the end, within a Move
		{beside{0, 0, Any}, "0001 0000 000011 00000 1", api.ErrField},                            // a style beyond, then the end
		{beside{0, 0, Any}, "0001 0001 001010 1 0", api.ErrField},                                // a style beyond, then a Line that is none
		{beside{0, 0, Any}, "1111 1111 001010 111111111111111 11111111111", api.ErrShort},        // the end, within the numbers' widths
		{beside{0, 0, Any}, "0000 0000 000001 10111 " + digitsIn(23, 1<<21, 0), api.ErrField},    // a Move that is not right, then the end
		{beside{0, 0, Any}, "0000 0000 000001 10111 " + digitsIn(23, 1<<21), api.ErrShort},       // the end, within it
		{beside{0, 0, Any}, "0000 0000 010001 10111 " + digitsIn(23, 1<<21, 0), api.ErrShort},    // the end, ahead of the lists
		{beside{0, 0, Any}, "0000 0000 010000 00 00000001 00000001", api.ErrField},               // a fill's kind, then the end
		{beside{0, 0, Any}, "0000 0000 010000 00 00000000 00000000", api.ErrShort},               // the end, ahead of the widths
		{beside{0, 0, Any}, "0000 0000 110011 0000001", api.ErrShort},                            // the end, ahead of the end's bits
		{beside{0, 0, Any}, "0000 0000 000000 111111", api.OK},                                   // the end, whatever is behind
		{beside{0, 0, Any}, "0000 0000 010000 11 00000000 00000000 0000 0000 000000", api.OK},    // bits that belong to nothing
		{beside{0, 0, Bare}, "0000 0000 000001 00000 010000", api.ErrField},                      // a Move, then new styles
		{beside{0, 0, 3}, "0000 0000 000001 00000 010000", api.ErrArg},                           // the kind, then all else
		{beside{0, 16, Plain}, "0000 0000 000001 00000 010000", api.ErrArg},                      // the lines, then all else
		{beside{-1, 0, Plain}, "0", api.ErrArg},                                                  // the fills, then all else
		{beside{1, 1, Plain}, "0001 0001 001110 1 1 1 100000 0001 0001 0001 0001", api.ErrShort}, // the end, behind right records
	} {
		r := bits.Reader{S: inBytes(c.d)}
		if got := expectAsTheWordsSay(t, c.p, r); got != c.want {
			t.Errorf("the words say %d of %s, want %d", got, c.d, c.want)
		}
		if _, _, e := TakeRecords(r, c.p.fills, c.p.strokes, c.p.kind); e != c.want {
			t.Errorf("TakeRecords(%s, %+v): error %d, want %d", c.d, c.p, e, c.want)
		}
	}
}

// P9.2, P9.3: readers in the midst of a byte go on at the next one; behind, the reader stands at the whole byte just behind the end, and bits that are left free may be any.
func TestTakeFromTheMidstOfAByte(t *testing.T) {
	d := dice(41)
	for i := range 60 {
		p := d.beside()
		l := d.records(p, i%9)
		s := p.wordsPut(l)
		x := d.shape(i % 5)
		b := shapeBytes(x)
		for _, beside := range []string{"\x00", "\xff", "\x55"} {
			expectTaken(t, p, bits.Reader{S: s + beside}, l, 8*len(s))
			expectShapeTaken(t, bits.Reader{S: b + beside}, x, 8*len(b))
			for at := 1; at <= 8; at++ {
				expectTaken(t, p, bits.Reader{S: beside + s, At: at}, l, 8+8*len(s))
				expectTaken(t, p, bits.Reader{S: "ab" + beside + s + beside, At: 16 + at}, l, 24+8*len(s))
				expectShapeTaken(t, bits.Reader{S: "ab" + beside + b + beside, At: 16 + at}, x, 24+8*len(b))
			}
		}
	}
	for n := range 32 {
		d := "00000000 000001" + digitsIn(5, n) + digitsIn(n, 0, 0) + "000000"
		whole := inBytes(d)
		full := inBytes(strings.ReplaceAll(d, " ", "") + strings.Repeat("1", (8-len(strings.ReplaceAll(d, " ", ""))%8)%8))
		expectTaken(t, beside{}, bits.Reader{S: whole}, []api.Record{moves(0, 0)}, 8*len(whole))
		expectTaken(t, beside{}, bits.Reader{S: full}, []api.Record{moves(0, 0)}, 8*len(whole))
	}
}

// P9.3: the errors of a shape's parts, in the order of the bytes.
func TestTakeOfShapesThatAreNotRight(t *testing.T) {
	far := rectBytes(api.Rect{Right: 1<<20 + 1})
	empty := rectBytes(api.Rect{})
	for _, c := range []struct {
		s    string
		want api.Errno
	}{
		{"", api.ErrShort}, {"\x01", api.ErrShort}, {"\x01\x02", api.ErrShort},
		{"\x01\x02" + far, api.ErrField}, {"\x01\x02" + far + "\x10", api.ErrField}, {"\x01\x02" + far[:len(far)-1], api.ErrShort},
		{"\x01\x02" + rectBytes(api.Rect{Left: 1}) + "\x10", api.ErrField},
		{"\x01\x02" + rectBytes(api.Rect{Top: 1}), api.ErrField},
		{"\x01\x02" + empty, api.ErrShort}, {"\x01\x02" + empty + "\x10", api.ErrLimit}, {"\x01\x02" + empty + "\x01\x01", api.ErrField},
		{"\x01\x02" + empty + "\x00", api.ErrShort}, {"\x01\x02" + empty + "\x00\x10", api.ErrLimit}, {"\x01\x02" + empty + "\x00\x10\x00\x40", api.ErrLimit},
		{"\x01\x02" + empty + "\x00\x00", api.ErrShort}, {"\x01\x02" + empty + "\x00\x00\x00", api.ErrShort}, {"\x01\x02" + empty + "\x00\x00\x00\x00", api.OK},
		{"\x01\x02" + empty + "\x00\x00\x11\x12\xff", api.ErrField}, {"\x01\x02" + empty + "\x00\x00" + inBytes("0001 0000 000010 1"), api.ErrField},
		{"\x01\x02" + empty + "\x01\x00\x00\x00\x00\x00\x00" + inBytes("0001 0000 000010 1 000000"), api.OK},
		{"\x01\x02" + empty + "\x01\x00\x00\x00\x00\x00\x00" + inBytes("0010 0000 000010 10 000000"), api.ErrField},
		{"\x01\x02" + empty + "\x00\x01\x00\x00\x00\x00\x00\x00" + inBytes("0000 0001 001000 1 000000"), api.OK},
		{"\x01\x02" + empty + "\x00\x01\x00\x00\x00\x00\x00\x00" + inBytes("0001 0001 000010 1 000000"), api.ErrField},
		{"\x01\x02" + empty + "\x00\x00" + inBytes("0000 0000 010000") + "\x00\x00\x00\x00", api.OK},
		{"\x01\x02" + empty + "\x00\x00" + inBytes("0000 0000 010000") + "\x11", api.ErrLimit},
		{"\x01\x02" + empty + "\x00\x00" + inBytes("00000000"+strings.Repeat("00000100000", 513)), api.ErrLimit},
		{"\x01\x02" + empty + "\x00\x00" + inBytes("00000000"+strings.Repeat("00000100000", 512)+"000000"), api.OK},
	} {
		for at := range 9 {
			s := c.s
			if at > 0 {
				s = "\xff" + s
			}
			r := bits.Reader{S: s, At: at}
			if got := expectShapeAsTheWordsSay(t, r); got != c.want {
				t.Errorf("the words say %d of %x, want %d", got, c.s, c.want)
			}
			if _, _, e := Take(r); e != c.want {
				t.Errorf("Take(%s, %d): error %d, want %d", short(s), at, e, c.want)
			}
		}
	}
}

// loose are digits of a record in any of the ways in which it may be told, mostly right beside p; it sets p to what there is behind it. Ahead of it stand so many digits.
func (d *dice) loose(p *beside, fillBits *int, lineBits *int, ahead int) string {
	if d.roll(2) > 0 {
		n := 2 + d.roll(16)
		number := func() int { return d.roll(1<<n) - 1<<(n-1) }
		switch d.roll(4) {
		case 0:
			return "10" + digitsIn(4, n-2) + digitsIn(n, number(), number(), number(), number())
		case 1:
			return "11" + digitsIn(4, n-2) + "1" + digitsIn(n, number(), number())
		}
		return "11" + digitsIn(4, n-2) + "0" + digitsIn(1, d.roll(2)) + digitsIn(n, number())
	}
	x := nothing()
	x.fillBits, x.lineBits = *fillBits, *lineBits
	now := *p
	if d.roll(4) == 0 && p.kind == Any || d.roll(100) == 0 {
		x.fresh = &api.Record{Kind: 3}
		x.fresh.Fills, x.fresh.Strokes = d.lists(3)
		now.fills, now.strokes = len(x.fresh.Fills), len(x.fresh.Strokes)
		x.nextFill, x.nextLine = 2+d.roll(3), 2+d.roll(14)
	}
	if p.kind != Bare && d.roll(3) > 0 || d.roll(100) == 0 {
		style := func(count int, n int) int {
			if d.roll(30) == 0 {
				count++
			}
			return min(d.upTo(count+1)-1, 1<<n-1)
		}
		x.left, x.right, x.line = style(now.fills, *fillBits), style(now.fills, *fillBits), style(now.strokes, *lineBits)
	}
	if d.roll(2) > 0 || len(x.records()) == 0 {
		x.move = &api.Point{X: d.about(1 << 20), Y: d.about(1 << 20)}
		if d.roll(20) == 0 {
			x.move.X = d.about(1 << 22)
		}
		x.moveBits = min(31, wordsWidth(x.move.X, x.move.Y)+d.upTo(9))
	}
	s := x.digits(ahead)
	if x.fresh != nil {
		*p, *fillBits, *lineBits = now, x.nextFill, x.nextLine
	}
	return s
}

// looseRecords are so many, and their end.
func (d *dice) looseRecords(p beside, count int) string {
	fillBits, lineBits := min(15, countWidth(p.fills)+d.roll(2)*d.roll(12)), min(15, countWidth(p.strokes)+d.roll(2)*d.roll(12))
	s := digitsIn(4, fillBits, lineBits)
	for range count {
		s += d.loose(&p, &fillBits, &lineBits, len(s))
	}
	return s + "000000"
}

// muddled are digits with some set otherwise, left out, or put in.
func (d *dice) muddled(s string) string {
	b := []byte(s)
	for range d.roll(4) {
		i := d.roll(len(b))
		switch d.roll(4) {
		case 0:
			b[i] ^= 1
		case 1:
			b = append(slices.Delete(b, i, i+1), '0')
		case 2:
			b = slices.Insert(b, i, byte('0'+d.roll(2)))
		case 3:
			b = b[:max(i, 1)]
		}
	}
	return string(b)
}

// anyBytes are any, often such as begin a record.
func (d *dice) anyBytes() string {
	s := make([]byte, d.roll(40))
	for i := range s {
		s[i] = byte(d.roll(256))
		if d.roll(2) > 0 {
			s[i] = []byte{0, 0x11, 0x40, 0x04, 0x10, 0x08, 0xc0, 0x80}[d.roll(8)]
		}
	}
	return string(s)
}

// P9.2, P9.4, P1, P2: any bytes, from any bit on, are taken as the words say, or refused as they say; what is taken is right, and is written as bytes that are taken as the same.
func TestTakeOfAnyBytes(t *testing.T) {
	d := dice(0xABCDEF)
	seen := map[api.Errno]int{}
	for i := range 30000 {
		p := d.beside()
		s := ""
		switch i % 4 {
		case 0:
			s = d.anyBytes()
		case 1:
			s = inBytes(d.muddled(d.looseRecords(p, 1+d.roll(8))))
		default:
			s = inBytes(d.looseRecords(p, 1+d.roll(12)))
		}
		at := 0
		if i%5 == 0 {
			at = d.roll(8*len(s)+16) - 8
		}
		seen[expectAsTheWordsSay(t, p, bits.Reader{S: s, At: at})]++
	}
	for i := range 40 {
		p := d.beside()
		seen[expectAsTheWordsSay(t, p, bits.Reader{S: inBytes(d.looseRecords(p, 200+10*i))})]++
	}
	for _, e := range []api.Errno{api.OK, api.ErrArg, api.ErrShort, api.ErrField, api.ErrLimit} {
		if seen[e] < 30 {
			t.Errorf("just %d answered %d", seen[e], e)
		}
	}
}

// P9.3, P9.4: likewise of shapes.
func TestTakeOfAnyShapes(t *testing.T) {
	d := dice(0x12345)
	seen := map[api.Errno]int{}
	for i := range 8000 {
		x := d.shape(0)
		s := shapeBytes(x)
		s = s[:len(s)-2]
		p := beside{len(x.Fills), len(x.Strokes), Any}
		switch i % 4 {
		case 0:
			s = inBytes(d.muddled(byteDigits(s) + d.looseRecords(p, d.roll(5))))
		case 1:
			s = d.anyBytes()
		default:
			s += inBytes(d.looseRecords(p, d.roll(9)))
		}
		at := 0
		if i%5 == 0 {
			at = d.roll(8*len(s)+16) - 8
		}
		seen[expectShapeAsTheWordsSay(t, bits.Reader{S: s, At: at})]++
	}
	for _, e := range []api.Errno{api.OK, api.ErrArg, api.ErrShort, api.ErrField, api.ErrLimit} {
		if seen[e] < 30 {
			t.Errorf("just %d answered %d", seen[e], e)
		}
	}
}

// P9.2: all bytes there are, two of them, ahead of others.
func TestTakeOfAllShortBytes(t *testing.T) {
	for a := range 256 {
		expectAsTheWordsSay(t, beside{1, 1, Any}, bits.Reader{S: string([]byte{byte(a)})})
		for b := range 256 {
			s := string([]byte{byte(a), byte(b)})
			for kind := Any; kind <= Bare; kind++ {
				expectAsTheWordsSay(t, beside{1, 1, kind}, bits.Reader{S: "\x11" + s})
			}
			expectAsTheWordsSay(t, beside{2, 1, Any}, bits.Reader{S: "\x21" + s + "\x00\x00\x00\x00\x00\x00"})
			expectAsTheWordsSay(t, beside{1, 2, Any}, bits.Reader{S: s + "\x44\x01\x02\x00\x00\x00\x00\x00"})
		}
	}
}

// P9.4: many, one behind another, are taken back in their order, and nothing is left.
func TestWrittenAndTakenBack(t *testing.T) {
	d := dice(99)
	w := bits.Writer{S: "\xf0", Free: 4}
	var all []Shape
	for i := range 60 {
		s := d.shape(i)
		next, e := Put(w, s)
		if e != api.OK || !strings.HasPrefix(next.S, w.S) || next.Free != 0 {
			t.Fatalf("Put(%+v): %d, %d", s, next.Free, e)
		}
		w = next
		all = append(all, s)
	}
	r := bits.Reader{S: w.S, At: 4}
	for _, want := range all {
		s, next, e := Take(r)
		if e != api.OK || !sameAs(s, want) || !SameRecords(s.Records, want.Records) || next.At <= r.At {
			t.Fatalf("Take = %+v, %d, want %+v", s, e, want)
		}
		r = next
	}
	if r.At != 8*len(w.S) {
		t.Errorf("%d bits are left", 8*len(w.S)-r.At)
	}
}

// R1: what is handed in stays as it was, behind its end, too.
func TestListsStay(t *testing.T) {
	d := dice(12)
	for range 60 {
		s := d.shape(12)
		before := fmt.Sprintf("%#v", s)
		half := s
		half.Records = s.Records[:6]
		Put(bits.Writer{}, half)
		Right(half)
		p := beside{len(s.Fills), len(s.Strokes), Any}
		PutRecords(bits.Writer{}, p.fills, p.strokes, half.Records, p.kind)
		PutRecords(bits.Writer{}, p.fills, p.strokes, append(slices.Clone(s.Records), api.Record{}), p.kind)
		RightRecords(p.fills, p.strokes, half.Records, Bare)
		SameRecords(s.Records, half.Records)
		if fmt.Sprintf("%#v", s) != before {
			t.Fatalf("%s was changed", before)
		}
	}
}

// R1, R4: what is taken is new memory: whoever writes into one list changes no other one, and no later answer.
func TestTakenListsAreTheirOwn(t *testing.T) {
	x := Shape{Fills: []api.Fill{red, ramp()}, Strokes: []api.Stroke{pen}, Records: []api.Record{{Kind: 3, Fills: []api.Fill{red, ramp()}, Strokes: []api.Stroke{pen}}, {Kind: 3, Fills: []api.Fill{red, ramp()}, Strokes: []api.Stroke{pen}}, sets(2, 2, 1)}}
	b := shapeBytes(x)
	got, _, _ := Take(bits.Reader{S: b})
	clear(got.Records[0].Fills[1].Stops)
	clear(got.Records[0].Fills)
	clear(got.Records[0].Strokes)
	_ = append(got.Records[0].Fills, tile)
	if !sameAs(got.Records[1:], x.Records[1:]) || !sameAs(got.Fills, x.Fills) || !sameAs(got.Strokes, x.Strokes) {
		t.Errorf("lists of one answer share: %+v", got)
	}
	clear(got.Records)
	clear(got.Fills)
	expectShapeTaken(t, bits.Reader{S: b}, x, 8*len(b))
}

// R3, R4: a call that was refused, or went well, leaves nothing that the next one could tell.
func TestCallsLeaveNothing(t *testing.T) {
	p := beside{2, 1, Any}
	l := []api.Record{move, set, fresh, sets(2, 1, 1), line, curve}
	s := p.wordsPut(l)
	for _, r := range []bits.Reader{{}, {S: "\x00\x40\x10"}, {S: "\x44\x0b\xff\xff"}, {S: s, At: -1}, {S: s[:9]}, {S: strings.Repeat("\x00\x08", 600)}, {S: s}} {
		TakeRecords(r, 15, 15, Any)
		TakeRecords(r, 0, 0, Bare)
		Take(r)
		PutRecords(bits.Writer{S: "z", Free: 9}, 16, 0, l, Any)
		PutRecords(bits.Writer{S: "y"}, 0, 0, []api.Record{fresh}, Any)
		Put(bits.Writer{}, Shape{ID: -1})
		expectPut(t, p, bits.Writer{}, l, s)
		expectTaken(t, p, bits.Reader{S: s}, l, 8*len(s))
	}
}
