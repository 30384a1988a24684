package morph_test

import (
	"slices"
	"strings"
	"testing"

	"celluloid/api"
	"celluloid/bits"
	"celluloid/morph"
	"celluloid/shape"
)

// expectAsTheWordsSay holds Take at r to the words, and what it takes to being right, written, and taken as the same; it tells the error.
func expectAsTheWordsSay(t *testing.T, r bits.Reader) api.Errno {
	t.Helper()
	m, at, e := wordsTake(r)
	if e != api.OK {
		expectNot(t, r, e)
		return e
	}
	expectTaken(t, r, m, at)
	s := wordsPut(m).bytes()
	expectPut(t, bits.Writer{S: "q"}, m, "q"+s)
	expectTaken(t, bits.Reader{S: "q" + s, At: 8}, m, 8+8*len(s))
	return api.OK
}

// head is an ID and two rectangles of noughts.
const head = "\x05\x00\x00\x00"

// tail is no lines, records of no style's, and Target: behind a list of fills that holds n of them.
func tail(n int) string {
	return "\x00" + recordBytes(n, 0, nil, shape.Plain) + "\x00\x00"
}

// framed are the bytes of a morph of so many fills, that these say, with the four bytes as they must be.
func framed(n int, fills string) string {
	s := little(n, 1) + fills + tail(n)
	return head + little(len(s)-2, 4) + s
}

// P10.2, R2: readers that are not right are ErrArg, ahead of all else, whatever their bytes say.
func TestTakeFromReadersThatAreNotRight(t *testing.T) {
	for _, s := range []string{"", "\x00", "\x00\x00", wordsPut(whole()).bytes(), strings.Repeat("\xff", 40), strings.Repeat("\x00", 40)} {
		for _, at := range []int{-1, -2, -7, -8, -9, -8*len(s) - 1, least, least + 1, most, most - 7, 1 << 32, -1 << 32, 8*len(s) + 1, 8*len(s) + 7, 8*len(s) + 8} {
			expectNot(t, bits.Reader{S: s, At: at}, api.ErrArg)
		}
	}
}

// P10.2: from each bit of the byte ahead, it begins at the next whole byte.
func TestTakeInTheMidstOfAByte(t *testing.T) {
	for _, m := range []morph.Morph{{}, whole()} {
		s := wordsPut(m).bytes()
		for at := range 9 {
			if at == 0 {
				expectTaken(t, bits.Reader{S: s}, m, 8*len(s))
				continue
			}
			expectTaken(t, bits.Reader{S: "\xff" + s, At: at}, m, 8+8*len(s))
			expectTaken(t, bits.Reader{S: "abc" + s + "more", At: 16 + at}, m, 24+8*len(s))
		}
	}
}

// P10.2: bytes that end at each place ahead of the end are ErrShort.
func TestTakeOfBytesThatEnd(t *testing.T) {
	d := dice(5)
	for i := range 100 {
		m := whole()
		if i > 0 {
			m = d.morph(3, i%9)
		}
		s := wordsPut(m).bytes()
		for n := range len(s) {
			expectNot(t, bits.Reader{S: s[:n]}, api.ErrShort)
			expectNot(t, bits.Reader{S: "q" + s[:n], At: 1 + n%8}, api.ErrShort)
		}
	}
	expectNot(t, bits.Reader{}, api.ErrShort)
	expectNot(t, bits.Reader{S: "abc", At: 24}, api.ErrShort)
	expectNot(t, bits.Reader{S: "abc", At: 23}, api.ErrShort)
}

// P10.2: how many fills and lines there are, and ErrLimit of more than 15, as soon as the number is read.
func TestTakeOfManyStyles(t *testing.T) {
	for _, n := range []int{0, 1, 2, 14, 15} {
		for _, k := range []int{0, 1, 2, 14, 15} {
			m := morph.Morph{ID: 5, Fills: make([]api.Fill, n), ToFills: make([]api.Fill, n), Strokes: make([]api.Stroke, k), ToStrokes: make([]api.Stroke, k)}
			s := head + little(4+9*n+12*k, 4) + little(n, 1) + strings.Repeat("\x00", 9*n) + little(k, 1) + strings.Repeat("\x00", 12*k) + recordBytes(n, k, nil, shape.Plain) + "\x00\x00"
			expectBoth(t, m, s)
		}
	}
	for n := 16; n < 256; n++ {
		for _, more := range []string{"", "\x01", "\x00", strings.Repeat("\x00", 12*n+20)} {
			expectNot(t, bits.Reader{S: head + "\x00\x00\x00\x00" + little(n, 1) + more}, api.ErrLimit)
			expectNot(t, bits.Reader{S: head + "\x00\x00\x00\x00" + "\x00" + little(n, 1) + more}, api.ErrLimit)
			expectNot(t, bits.Reader{S: head + "\x00\x00\x00\x00" + "\x01" + strings.Repeat("\x00", 9) + little(n, 1) + more}, api.ErrLimit)
		}
	}
}

// P10.2: each Kind of fill, and ErrField of one that is none, as soon as it is read.
func TestTakeOfEachKind(t *testing.T) {
	for kind := range 256 {
		s := head + "\x00\x00\x00\x00" + "\x01" + little(kind, 1)
		switch kind {
		case 0, 16, 18, 64, 65:
			expectNot(t, bits.Reader{S: s}, api.ErrShort)
		default:
			expectNot(t, bits.Reader{S: s}, api.ErrField)
			expectNot(t, bits.Reader{S: s + strings.Repeat("\x00", 60)}, api.ErrField)
		}
	}
}

// P10.2: each byte of Spread and Stops; ErrField as soon as it is read, behind both matrices.
func TestTakeOfEachForm(t *testing.T) {
	for told := range 256 {
		for _, kind := range []string{"\x10", "\x12"} {
			fill := kind + "\x00\x04\x80" + little(told, 1)
			spread, n := told/64, told%16
			if told>>4&3 != 0 || spread == 3 || n == 0 || n > 8 {
				expectNot(t, bits.Reader{S: head + "\x00\x00\x00\x00" + "\x01" + fill}, api.ErrField)
				expectNot(t, bits.Reader{S: framed(1, fill+strings.Repeat("\x00", 10*n))}, api.ErrField)
				continue
			}
			expectNot(t, bits.Reader{S: head + "\x00\x00\x00\x00" + "\x01" + fill}, api.ErrShort)
			a := api.Fill{Kind: int(kind[0]), Matrix: same, Spread: spread, Stops: make([]api.Stop, n)}
			b := a
			b.Matrix = moved
			s := framed(1, fill+strings.Repeat("\x00", 10*n))
			expectTaken(t, bits.Reader{S: s}, morph.Morph{ID: 5, Fills: []api.Fill{a}, ToFills: []api.Fill{b}}, 8*len(s))
		}
	}
}

// P10.2: a Ratio that falls, on either side, is told when both are read.
func TestTakeOfRatiosThatFall(t *testing.T) {
	stop := func(ratio int) string { return little(ratio, 1) + "\x01\x02\x03\x04" }
	begin := head + "\x00\x00\x00\x00" + "\x01\x10\x00\x00"
	for _, c := range []struct {
		from, to []int
		falls    bool
	}{
		{[]int{0, 0}, []int{0, 0}, false},
		{[]int{255, 255}, []int{255, 255}, false},
		{[]int{0, 255}, []int{255, 255}, false},
		// One side may stand above the other, as each is held against its own.
		{[]int{9, 9}, []int{3, 3}, false},
		{[]int{3, 3}, []int{9, 9}, false},
		{[]int{5, 4}, []int{0, 0}, true},
		{[]int{0, 0}, []int{5, 4}, true},
		{[]int{5, 4}, []int{4, 5}, true},
		{[]int{4, 5}, []int{5, 4}, true},
		{[]int{255, 0}, []int{255, 0}, true},
		{[]int{1, 2, 1}, []int{1, 2, 2}, true},
		{[]int{1, 2, 2}, []int{1, 2, 0}, true},
		{[]int{1, 2, 3, 4, 5, 6, 7, 6}, []int{0, 0, 0, 0, 0, 0, 0, 0}, true},
		{[]int{0, 0, 0, 0, 0, 0, 0, 0}, []int{1, 2, 3, 4, 5, 6, 7, 6}, true},
	} {
		n := len(c.from)
		stops := ""
		for i := range n - 1 {
			stops += stop(c.from[i]) + stop(c.to[i])
		}
		upTo := begin + little(64+n, 1) + stops
		last := stop(c.from[n-1]) + stop(c.to[n-1])
		// Up to the other side's Ratio nothing is told of either.
		for k := range 6 {
			expectNot(t, bits.Reader{S: upTo + last[:k]}, api.ErrShort)
		}
		want := api.ErrShort
		if c.falls {
			want = api.ErrField
		}
		for k := 6; k < 10; k++ {
			expectNot(t, bits.Reader{S: upTo + last[:k]}, want)
		}
		s := framed(1, "\x10\x00\x00"+little(64+n, 1)+stops+last)
		if c.falls {
			expectNot(t, bits.Reader{S: s}, api.ErrField)
		} else if e := expectAsTheWordsSay(t, bits.Reader{S: s}); e != api.OK {
			t.Errorf("%v, %v: error %d", c.from, c.to, e)
		}
	}
	// The next fill's Ratios begin anew.
	fill := func(ratio int) string { return "\x10\x00\x00\x01" + stop(ratio) + stop(ratio) }
	if e := expectAsTheWordsSay(t, bits.Reader{S: framed(2, fill(200)+fill(100))}); e != api.OK {
		t.Errorf("two fills: error %d", e)
	}
}

// P10.2: parts of layer 7 that are not right are ErrField where they stand, with nothing behind them.
func TestTakeOfPartsThatAreNotRight(t *testing.T) {
	// Left 1 and Right 0, in 2 bits each: 00010 01 00 00 00.
	turned := "\x12\x00"
	if e := expectAsTheWordsSay(t, bits.Reader{S: "\x05\x00" + turned}); e != api.ErrField {
		t.Errorf("From: error %d", e)
	}
	if e := expectAsTheWordsSay(t, bits.Reader{S: "\x05\x00\x00" + turned}); e != api.ErrField {
		t.Errorf("To: error %d", e)
	}
	// A matrix with X of 2^20 + 1, in 22 bits: 0 0 10110.
	far := inBytes("0010110" + "0100000000000000000001" + "0000000000000000000000")
	begin := head + "\x00\x00\x00\x00" + "\x01"
	for _, kind := range []string{"\x10", "\x12", "\x40\x07\x00", "\x41\x07\x00"} {
		expectNot(t, bits.Reader{S: begin + kind + far}, api.ErrField)
		expectNot(t, bits.Reader{S: begin + kind + "\x00" + far}, api.ErrField)
		expectNot(t, bits.Reader{S: begin + kind + "\x00" + far[:len(far)-1]}, api.ErrShort)
		expectNot(t, bits.Reader{S: begin + kind + "\x00"}, api.ErrShort)
	}
}

// inBytes are digits as bytes; the free ones of the last byte are 0.
func inBytes(d string) string {
	d = strings.ReplaceAll(d, " ", "")
	d += strings.Repeat("0", (8-len(d)%8)%8)
	s := make([]byte, len(d)/8)
	for i := range s {
		for _, c := range d[8*i : 8*i+8] {
			s[i] = 2*s[i] + byte(c-'0')
		}
	}
	return string(s)
}

// P10.2: rectangles, matrices and records may be told in greater widths than they must; the four bytes count what is there.
func TestTakeOfAnyWidths(t *testing.T) {
	rect := inBytes("01010 0000000000 0000000001 1111111111 0000000010")
	matrix := inBytes("1 10111 00000000000000000000111 11111111111111111111111 0 00000")
	records := inBytes("1111 0110 00 1 1 1 0 000000000000001 000000000000000 000001 11 1111 1 00000000000000101 11111111111111111 000000")
	target := inBytes("0101 1111 10 0100 000001 000010 000011 000100 000000")
	body := "\x01\x40\x07\x00" + matrix + matrix + "\x01\x01\x00\x02\x00" + strings.Repeat("\x09", 8) + records
	s := "\x05\x00" + rect + rect + little(len(body), 4) + body + target
	bounds := api.Rect{Right: 1, Top: -1, Bottom: 2}
	fill := api.Fill{Kind: 64, Matrix: api.Matrix{A: 7, D: -1}, ID: 7}
	nine := api.RGBA{R: 9, G: 9, B: 9, A: 9}
	expectTaken(t, bits.Reader{S: s}, morph.Morph{
		ID: 5, From: bounds, To: bounds, Fills: []api.Fill{fill}, ToFills: []api.Fill{fill},
		Strokes: []api.Stroke{{Width: 1, Color: nine}}, ToStrokes: []api.Stroke{{Width: 2, Color: nine}},
		Records: []api.Record{sets(1, 0, 1), lines(5, -1)}, Target: []api.Record{curves(1, 2, 3, 4)},
	}, 8*len(s))
	expectAsTheWordsSay(t, bits.Reader{S: s})
	for n := range len(s) {
		expectNot(t, bits.Reader{S: s[:n]}, api.ErrShort)
	}
}

// P10.2: Records are plain beside just the styles that there are, Target is bare.
func TestTakeOfRecords(t *testing.T) {
	end := "000000"
	fill := "\x00\x01\x02\x03\x04\x05\x06\x07\x08"
	stroke := strings.Repeat("\x09", 12)
	with := func(fills int, strokes int, records string, target string) bits.Reader {
		body := little(fills, 1) + strings.Repeat(fill, fills) + little(strokes, 1) + strings.Repeat(stroke, strokes) + inBytes(records)
		return bits.Reader{S: head + little(len(body), 4) + body + inBytes(target)}
	}
	plain := "0000 0000" + end
	for _, c := range []struct {
		fills, strokes  int
		records, target string
		want            api.Errno
	}{
		{0, 0, plain, plain, api.OK},
		{2, 1, "0010 0001 001110 10 01 1" + end, plain, api.OK},
		{2, 1, "0010 0001 001110 11 01 1" + end, plain, api.ErrField},
		{2, 1, "0010 0001 001110 10 11 1" + end, plain, api.ErrField},
		{3, 0, "0010 0001 001110 11 01 0" + end, plain, api.OK},
		{3, 0, "0010 0001 001110 11 01 1" + end, plain, api.ErrField},
		{0, 3, "0010 0010 001110 00 00 11" + end, plain, api.OK},
		{0, 3, "0010 0010 001110 01 00 11" + end, plain, api.ErrField},
		{15, 15, "0100 0100 001110 1111 1111 1111" + end, plain, api.OK},
		// A Fresh, as soon as its bits are read.
		{0, 0, "0000 0000 010000 00 00000000 00000000 0000 0000" + end, plain, api.ErrField},
		{0, 0, "0000 0000 010000", "", api.ErrField},
		{0, 0, plain, "0000 0000 010000 00 00000000 00000000 0000 0000" + end, api.ErrField},
		{0, 0, plain, "0000 0000 010000", api.ErrField},
		// A Set in Target, even one that takes styles away.
		{0, 0, plain, "0000 0000 001000" + end, api.ErrField},
		{0, 0, plain, "0000 0000 000100", api.ErrField},
		{15, 15, "0100 0100" + end, "0100 0100 000010 0001" + end, api.ErrField},
		{0, 0, plain, "0000 0000 000001 00000" + end, api.OK},
		// Records that tell a Move and a Set at once, and a Move that is not right.
		{0, 0, "0000 0000 001111 00010 01 11" + end, "0000 0000 000001 00010 01 11" + end, api.OK},
		{0, 0, plain, "0000 0000 000011 00010 01 11" + end, api.ErrField},
		{0, 0, "0000 0000 000001 10110 0100000000000000000001 0000000000000000000000" + end, plain, api.ErrField},
		{0, 0, plain, "0000 0000 000001 10110 0100000000000000000001 0000000000000000000000", api.ErrField},
	} {
		if e := expectAsTheWordsSay(t, with(c.fills, c.strokes, c.records, c.target)); e != c.want {
			t.Errorf("%+v: error %d", c, e)
		}
	}
	// More than 512, of either side.
	many := "0000 0000" + strings.Repeat("000001 00000", 512)
	for _, c := range []struct {
		records, target string
		want            api.Errno
	}{
		{many + end, many + end, api.OK},
		{many + "000001 00000" + end, plain, api.ErrLimit},
		{plain, many + "000001 00000" + end, api.ErrLimit},
		{plain, many + "000001 00000", api.ErrLimit},
	} {
		if e := expectAsTheWordsSay(t, with(0, 0, c.records, c.target)); e != c.want {
			t.Errorf("%d, %d digits: error %d", len(c.records), len(c.target), e)
		}
	}
}

// P10.2: four bytes that tell less or more than there is are ErrField, at the end, behind all errors of the parts.
func TestTakeOfAnotherLength(t *testing.T) {
	for _, m := range []morph.Morph{{}, whole()} {
		p := wordsPut(m)
		n := len(p.body)
		for _, length := range []int{0, 1, n - 2, n - 1, n + 1, n + 2, n + len(p.target), n + 256, n + 65536, n + 1<<24, n ^ 1<<31, 8 * n, n / 8, 1<<32 - 1, 1 << 31} {
			q := p
			q.length = little(length, 4)
			s := q.bytes()
			expectNot(t, bits.Reader{S: s}, api.ErrField)
			expectNot(t, bits.Reader{S: s + strings.Repeat("\x00", 300)}, api.ErrField)
			expectNot(t, bits.Reader{S: "q" + s, At: 5}, api.ErrField)
			for k := range len(s) {
				expectNot(t, bits.Reader{S: s[:k]}, api.ErrShort)
			}
			q.target = inBytes("0000 0000" + strings.Repeat("000001 00000", 513))
			expectNot(t, bits.Reader{S: q.bytes()}, api.ErrLimit)
			// Bytes between that belong to nothing are told so too: Target begins at once behind Records.
			q.target = "\x00" + p.target
			expectAsTheWordsSay(t, bits.Reader{S: q.bytes()})
		}
		expectTaken(t, bits.Reader{S: p.bytes()}, m, 8*len(p.bytes()))
	}
	// The four bytes don't say where Target is looked for.
	gap := head + "\x05\x00\x00\x00" + "\x00\x00\x00\x00" + "\x77" + "\x00\x00"
	expectAsTheWordsSay(t, bits.Reader{S: gap})
	expectNot(t, bits.Reader{S: head + "\x05\x00\x00\x00" + "\x00\x00\x00\x00" + "\x00" + "\x00\x00"}, api.ErrField)
	// Ahead of it: a list that is too long, a Kind that is none, records that end.
	for _, c := range []struct {
		s    string
		want api.Errno
	}{
		{"\xff\xff\xff\xff" + "\x10", api.ErrLimit},
		{"\xff\xff\xff\xff" + "\x00\x10", api.ErrLimit},
		{"\x00\x00\x00\x00" + "\x01\x05", api.ErrField},
		{"\x00\x00\x00\x00" + "\x00\x00\x00", api.ErrShort},
		{"\x00\x00\x00\x00" + "\x00\x00\x00\x00", api.ErrShort},
		{"\x00\x00\x00\x00" + "\x00\x00\x00\x00\x00", api.ErrShort},
		{"\x00\x00\x00\x00" + "\x00\x00\x00\x00\x00\x00", api.ErrField},
		{"\xff\xff\xff\xff" + "\x00\x00\x00\x00\x00\x00", api.ErrField},
		{"\x04\x00\x00\x00" + "\x00\x00\x00\x00\x00\x00", api.OK},
	} {
		if e := expectAsTheWordsSay(t, bits.Reader{S: head + c.s}); e != c.want {
			t.Errorf("%x: error %d, want %d", c.s, e, c.want)
		}
	}
}

// P10.2, P1: any bytes, from any bit on.
func TestTakeOfAnyBytes(t *testing.T) {
	d := dice(17)
	told := map[api.Errno]int{}
	for range 30000 {
		s := make([]byte, d.roll(60))
		for i := range s {
			s[i] = byte(d.roll(256))
			if d.roll(3) > 0 {
				s[i] = byte(d.roll(3))
			}
		}
		told[expectAsTheWordsSay(t, bits.Reader{S: string(s), At: d.roll(8*len(s) + 1)})]++
	}
	if told[api.ErrShort] == 0 || told[api.ErrField] == 0 || told[api.ErrLimit] == 0 {
		t.Errorf("errors told: %v", told)
	}
}

// P10.2, P10.4: a morph's bytes with some bits turned, left out or put in: what is taken is right, and is written as bytes that are taken as the same.
func TestTakeOfMuddledBytes(t *testing.T) {
	d := dice(19)
	told := map[api.Errno]int{}
	for i := range 6000 {
		m := d.morph(1+i%4, i%7)
		s := []byte(wordsPut(m).bytes())
		for range d.roll(3) {
			at := d.roll(len(s))
			switch d.roll(6) {
			case 0:
				s = slices.Delete(s, at, at+1)
			case 1:
				s = slices.Insert(s, at, byte(d.roll(256)))
			case 2:
				s[at] = byte(d.roll(256))
			default:
				s[at] ^= 1 << d.roll(8)
			}
		}
		told[expectAsTheWordsSay(t, bits.Reader{S: string(s)})]++
	}
	if told[api.OK] == 0 || told[api.ErrShort] == 0 || told[api.ErrField] == 0 || told[api.ErrLimit] == 0 {
		t.Errorf("errors told: %v", told)
	}
}

// R4: what was asked ahead turns nothing.
func TestAskedAgain(t *testing.T) {
	m := whole()
	s := wordsPut(m).bytes()
	for range 3 {
		expectNot(t, bits.Reader{S: s[:len(s)-1]}, api.ErrShort)
		expectTaken(t, bits.Reader{S: s}, m, 8*len(s))
		expectNotAt(t, m, -1, api.ErrArg)
		want, _ := wordsAt(m, 40000)
		expectAt(t, m, 40000, want)
	}
}
